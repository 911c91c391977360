/- Parts of the proof, put together from smaller texts (blanks that Lean does not want are struck). Conditions: those that each theorem writes out. -/
import Derived.Test.YthcmkpiajkbpnaaGreatDoorZ00
import Derived.Test.YthcmkpiajkbpnaaGreatDoorZ08
import Derived.Test.YthcmkpiajkbpnaaGreatDoorZ12
import Derived.Test.YthcmkpiajkbpnaaGreatDoorZ31
namespace Go.Proofs.YthcmkpiajkbpnaaGreatDoor
open Go.RowKit
set_option maxRecDepth 100000 in
set_option maxHeartbeats 1600000 in
theorem trColl_deep (g:Nat) (s:ByteArray) (d p:Nat) (o:Rd Tre) (w:World) (h:TrAt g s p (.slice none 0 0) w) (hd:40≤d) (ho:o=.bad p 6) :
  Calls Tryz.prog 30 #[.pointer (some ⟨g,0,none⟩),.int .i64 (d:Int)] w fun e w'=>TrPost g w o (NodG g s w) e w':=by
 have hg:=h.lt
 obtain ⟨W1,hW1⟩:∃ W1,W1=w.alloc (.cells #[.int .i64 0,.int .i64 0,.int .i64 0,.int .i64 0,.string ⟨#[]⟩,.string ⟨#[]⟩,.string ⟨#[]⟩,.slice none 0 0,.slice none 0 0,.slice none 0 0,.bool false,.string ⟨#[]⟩] 27):=⟨_,rfl⟩
 have b1:Below w.heap.size w W1:=by rw[hW1];exact (Below.refl _ _).alloc (Nat.le_refl _) _
 have h1:=h.below b1 hg
 have c1:=h1.cell
 have hd2:(40:Int)≤(d:Int):=by omega
 have HW:=Lib.hid hW1
 clear hW1 h h1
 subst ho
 go_enter Tryz.func30,Tryz.ntmps30
 go_upto_region 1 with fail
 rw[←HW.out]
 go_wp2_with fail
 refine (trRaise_is p 6 _).mono ?_
 rintro e w' ⟨rfl,rfl⟩
 exact ⟨rfl,rfl,below_lx b1⟩
set_option maxRecDepth 100000 in
set_option maxHeartbeats 1600000 in
theorem trColl_seq {Ev:World→Prop} {P:ByteArray→Prop} (K:CntC Ev P) (w0:World) (hEv:Ev w0) (g:Nat) (hg0:w0.heap.size≤g) (s:ByteArray) (hs:s.size≤10000) (hPs:P s) (k:Nat) (hblk:BlkC w0 g s (blkP s k)) (d p:Nat) (o:Rd Tre) (w:World) (hB:Below w0.heap.size w0 w) (h:TrAt g s p (.slice none 0 0) w) (hp:p<s.size) (hd:d<40) (hmk:markB s p 45=true) (oS:Rd (List NT × Coms × Nat)) (hS:SeqP s (blkP s k) (colF s p) (d+1) oS p [] []) (ho:o=rdMap (fun r=>(NT.mk ⟨3,6,p,0,[],[],[],[],[],false,[]⟩ r.1,r.2)) oS) :
  Calls Tryz.prog 30 #[.pointer (some ⟨g,0,none⟩),.int .i64 (d:Int)] w fun e w'=>TrPost g w o (NodG g s w) e w':=by
 have hg:=h.lt
 obtain ⟨W1,hW1⟩:∃ W1,W1=w.alloc (.cells #[.int .i64 0,.int .i64 0,.int .i64 0,.int .i64 0,.string ⟨#[]⟩,.string ⟨#[]⟩,.string ⟨#[]⟩,.slice none 0 0,.slice none 0 0,.slice none 0 0,.bool false,.string ⟨#[]⟩] 27):=⟨_,rfl⟩
 have u1:W1.heap.size=w.heap.size+1:=by rw[hW1];simp
 have b1:Below w.heap.size w W1:=by rw[hW1];exact (Below.refl _ _).alloc (Nat.le_refl _) _
 have ra:W1.heap[w.heap.size]?=some (.cells #[.int .i64 0,.int .i64 0,.int .i64 0,.int .i64 0,.string ⟨#[]⟩,.string ⟨#[]⟩,.string ⟨#[]⟩,.slice none 0 0,.slice none 0 0,.slice none 0 0,.bool false,.string ⟨#[]⟩] 27 (0,0)):=by rw[hW1];exact heap_alloc_new w _
 have h1:=h.below b1 hg
 have B1:Below w0.heap.size w0 W1:=hB.trans (b1.mono hB.size)
 have HW:=Lib.hid hW1
 clear hW1 h
 have CM:=trMark_is g s p (.slice none 0 0) W1 true 45 h1 hs hmk
 have hd2:¬ ((40:Int)≤(d:Int)):=by omega
 subst ho
 clear hmk
 go_enter Tryz.func30,Tryz.ntmps30
 go_upto_region 1 with fail
 rw[←HW.out]
 go_wp2_with fail
 refine CM.mono ?_
 rintro e w2 ⟨rfl,j2,e2⟩
 have b2:Below W1.heap.size W1 w2:=by rw[e2];exact Go.below_drewN (Below.refl _ _) _
 clear e2 CM
 have z2:=b2.size
 have h2:=h1.below b2 h1.lt
 have B2:=B1.trans (b2.mono B1.size)
 have k2:Keep (Lx g w.heap.size) w w2:=(below_lx b1).lxB b2 b1.size
 have ra2:=(b2.block w.heap.size (by omega)).trans ra
 have CS:=trSeq_is K w0 hEv g hg0 s hs hPs (blkP s k) hblk (blkP_lead s k) (blkP_far s k) (colF s p) d p rfl oS hS w2 B2 h2 hp hd
 have HK:=Lib.hid k2
 have HRA:=Lib.hid ra2
 clear h1 B1 B2 b1 b2 ra ra2 h2 k2 hS
 go_wp2_with fail
 refine CS.mono ?_
 rintro e w3 hpost
 clear CS
 cases oS with
 | bad q c=>
  obtain ⟨rfl,k3⟩:=hpost
  exact ⟨rfl,rfl,HK.out.lx k3 HK.out.size⟩
 | ok r=>
  obtain ⟨cs,v,R,rfl,hN,M⟩:=hpost
  obtain ⟨y0,y1,y2,y3,y4,y5,y6,ya,yb,yc,yd,ye,yf,yg,yh,yi,y7,y8,rfl⟩:=hN.cells12
  have ra3:=(M.keep.block w.heap.size ⟨by omega,by omega⟩).trans HRA.out
  have qa3:∀ j,w3.cell? ⟨w.heap.size,j,none⟩=(#[.int .i64 0,.int .i64 0,.int .i64 0,.int .i64 0,.string ⟨#[]⟩,.string ⟨#[]⟩,.string ⟨#[]⟩,.slice none 0 0,.slice none 0 0,.slice none 0 0,.bool false,.string ⟨#[]⟩]:Array Value)[j]?:=fun j=>cell_of_row w3 _ j _ _ _ ra3
  have fa3:∀ j,w3.frozen? ⟨w.heap.size,j,none⟩=false:=fun j=>frozen_of_row w3 _ j _ _ ra3
  have HRA3:=Lib.hid ra3
  have HM:=Lib.hid M
  have HN:=Lib.hid hN
  clear M hN ra3
  go_wp2
  try rw[Exit.noGoto_ret]
  obtain ⟨w12,hw12⟩:∃ w12,w12=((((((((((((w3.setCell ⟨w.heap.size,0,none⟩ (.int .i64 y0)).setCell ⟨w.heap.size,1,none⟩ (.int .i64 y1)).setCell ⟨w.heap.size,2,none⟩ (.int .i64 y2)).setCell ⟨w.heap.size,3,none⟩ (.int .i64 y3)).setCell ⟨w.heap.size,4,none⟩ (.string y4)).setCell ⟨w.heap.size,5,none⟩ (.string y5)).setCell ⟨w.heap.size,6,none⟩ (.string y6)).setCell ⟨w.heap.size,7,none⟩ (.slice ya yb yc)).setCell ⟨w.heap.size,8,none⟩ (.slice yd ye yf)).setCell ⟨w.heap.size,9,none⟩ (.slice yg yh yi)).setCell ⟨w.heap.size,10,none⟩ (.bool y7)).setCell ⟨w.heap.size,11,none⟩ (.string y8)):=⟨_,rfl⟩
  have r12:w12.heap[w.heap.size]?=some (.cells #[.int .i64 y0,.int .i64 y1,.int .i64 y2,.int .i64 y3,.string y4,.string y5,.string y6,.slice ya yb yc,.slice yd ye yf,.slice yg yh yi,.bool y7,.string y8] 27 (0,0)):=by rw[hw12];exact row12_set w3 (hg:=HRA3.out) ..
  have b12:Below w.heap.size w3 w12:=by rw[hw12];exact row12_below w3 _ _ (Nat.le_refl _) _ _ _ _ _ _ _ _ _ _ _ _
  have z12:w12.heap.size=w3.heap.size:=by rw[hw12,row12_size]
  have s12:∀ k,¬ k=w.heap.size→w12.heap[k]?=w3.heap[k]?:=fun k hk=>by rw[hw12];exact row12_other w3 _ k hk ..
  rw[←hw12]
  clear hw12 qa3 fa3
  have hcz:∀ j,w12.cell? ⟨w.heap.size,j,none⟩=(#[.int .i64 y0,.int .i64 y1,.int .i64 y2,.int .i64 y3,.string y4,.string y5,.string y6,.slice ya yb yc,.slice yd ye yf,.slice yg yh yi,.bool y7,.string y8]:Array Value)[j]?:=fun j=>cell_of_row w12 _ j _ _ _ r12
  refine bodyPost_ret (v:=.agg #[.int .i64 y0,.int .i64 y1,.int .i64 y2,.int .i64 y3,.string y4,.string y5,.string y6,.slice ya yb yc,.slice yd ye yf,.slice yg yh yi,.bool y7,.string y8]) (by simp[results,Tryz.results30,go_sem,hcz]) rfl ?_
  have hRk:∀ j,R j→w.heap.size+1≤j:=fun j hj=>by have:=(HM.out.new j hj).1;omega
  exact ⟨_,v,R,rfl,IsN.frame (fun j hj=>⟨hj,s12 j (by have:=hRk j hj;omega)⟩) _ _ HN.out,(HM.out.mono HK.out).put (fun j=>j=w.heap.size) (fun j hj=>⟨by omega,by omega,fun h=>by have:=hRk j h;omega,fun h=>by have:=(HM.out.own j h).1;omega⟩) s12 z12 ⟨b12.os,b12.tape,b12.output⟩⟩
set_option maxRecDepth 100000 in
set_option maxHeartbeats 1600000 in
theorem trColl_map {Ev:World→Prop} {P:ByteArray→Prop} (K:CntC Ev P) (w0:World) (hEv:Ev w0) (g:Nat) (hg0:w0.heap.size≤g) (s:ByteArray) (hs:s.size≤10000) (hPs:P s) (k:Nat) (hblk:BlkC w0 g s (blkP s k)) (d p:Nat) (o:Rd Tre) (w:World) (hB:Below w0.heap.size w0 w) (h:TrAt g s p (.slice none 0 0) w) (hp:p<s.size) (hpw:U.white (byt s p:Int)=false) (hd:d<40) (hmk:markB s p 45=false) (oS:Rd (List NT × Coms × Nat)) (hS:MapP s (blkP s k) (colF s p) (d+1) oS p [] []) (ho:o=rdMap (fun r=>(NT.mk ⟨4,6,p,0,[],[],[],[],[],false,[]⟩ r.1,r.2)) oS) :
  Calls Tryz.prog 30 #[.pointer (some ⟨g,0,none⟩),.int .i64 (d:Int)] w fun e w'=>TrPost g w o (NodG g s w) e w':=by
 have hg:=h.lt
 obtain ⟨W1,hW1⟩:∃ W1,W1=w.alloc (.cells #[.int .i64 0,.int .i64 0,.int .i64 0,.int .i64 0,.string ⟨#[]⟩,.string ⟨#[]⟩,.string ⟨#[]⟩,.slice none 0 0,.slice none 0 0,.slice none 0 0,.bool false,.string ⟨#[]⟩] 27):=⟨_,rfl⟩
 have u1:W1.heap.size=w.heap.size+1:=by rw[hW1];simp
 have b1:Below w.heap.size w W1:=by rw[hW1];exact (Below.refl _ _).alloc (Nat.le_refl _) _
 have ra:W1.heap[w.heap.size]?=some (.cells #[.int .i64 0,.int .i64 0,.int .i64 0,.int .i64 0,.string ⟨#[]⟩,.string ⟨#[]⟩,.string ⟨#[]⟩,.slice none 0 0,.slice none 0 0,.slice none 0 0,.bool false,.string ⟨#[]⟩] 27 (0,0)):=by rw[hW1];exact heap_alloc_new w _
 have h1:=h.below b1 hg
 have B1:Below w0.heap.size w0 W1:=hB.trans (b1.mono hB.size)
 have HW:=Lib.hid hW1
 clear hW1 h
 have CM:=trMark_is g s p (.slice none 0 0) W1 false 45 h1 hs hmk
 have hd2:¬ ((40:Int)≤(d:Int)):=by omega
 subst ho
 clear hmk
 go_enter Tryz.func30,Tryz.ntmps30
 go_upto_region 1 with fail
 rw[←HW.out]
 go_wp2_with fail
 refine CM.mono ?_
 rintro e w2 ⟨rfl,j2,e2⟩
 have b2:Below W1.heap.size W1 w2:=by rw[e2];exact Go.below_drewN (Below.refl _ _) _
 clear e2 CM
 have z2:=b2.size
 have h2:=h1.below b2 h1.lt
 have B2:=B1.trans (b2.mono B1.size)
 have k2:Keep (Lx g w.heap.size) w w2:=(below_lx b1).lxB b2 b1.size
 have ra2:=(b2.block w.heap.size (by omega)).trans ra
 have CS:=trMap_is K w0 hEv g hg0 s hs hPs (blkP s k) hblk (blkP_lead s k) (blkP_far s k) (blkP_nw s k) (colF s p) d p rfl oS hS w2 B2 h2 hp hpw hd
 have HK:=Lib.hid k2
 have HRA:=Lib.hid ra2
 clear h1 B1 B2 b1 b2 ra ra2 h2 k2 hS
 go_wp2_with fail
 refine CS.mono ?_
 rintro e w3 hpost
 clear CS
 cases oS with
 | bad q c=>
  obtain ⟨rfl,k3⟩:=hpost
  exact ⟨rfl,rfl,HK.out.lx k3 HK.out.size⟩
 | ok r=>
  obtain ⟨cs,v,R,rfl,hN,M⟩:=hpost
  obtain ⟨y0,y1,y2,y3,y4,y5,y6,ya,yb,yc,yd,ye,yf,yg,yh,yi,y7,y8,rfl⟩:=hN.cells12
  have ra3:=(M.keep.block w.heap.size ⟨by omega,by omega⟩).trans HRA.out
  have qa3:∀ j,w3.cell? ⟨w.heap.size,j,none⟩=(#[.int .i64 0,.int .i64 0,.int .i64 0,.int .i64 0,.string ⟨#[]⟩,.string ⟨#[]⟩,.string ⟨#[]⟩,.slice none 0 0,.slice none 0 0,.slice none 0 0,.bool false,.string ⟨#[]⟩]:Array Value)[j]?:=fun j=>cell_of_row w3 _ j _ _ _ ra3
  have fa3:∀ j,w3.frozen? ⟨w.heap.size,j,none⟩=false:=fun j=>frozen_of_row w3 _ j _ _ ra3
  have HRA3:=Lib.hid ra3
  have HM:=Lib.hid M
  have HN:=Lib.hid hN
  clear M hN ra3
  go_wp2
  try rw[Exit.noGoto_ret]
  obtain ⟨w12,hw12⟩:∃ w12,w12=((((((((((((w3.setCell ⟨w.heap.size,0,none⟩ (.int .i64 y0)).setCell ⟨w.heap.size,1,none⟩ (.int .i64 y1)).setCell ⟨w.heap.size,2,none⟩ (.int .i64 y2)).setCell ⟨w.heap.size,3,none⟩ (.int .i64 y3)).setCell ⟨w.heap.size,4,none⟩ (.string y4)).setCell ⟨w.heap.size,5,none⟩ (.string y5)).setCell ⟨w.heap.size,6,none⟩ (.string y6)).setCell ⟨w.heap.size,7,none⟩ (.slice ya yb yc)).setCell ⟨w.heap.size,8,none⟩ (.slice yd ye yf)).setCell ⟨w.heap.size,9,none⟩ (.slice yg yh yi)).setCell ⟨w.heap.size,10,none⟩ (.bool y7)).setCell ⟨w.heap.size,11,none⟩ (.string y8)):=⟨_,rfl⟩
  have r12:w12.heap[w.heap.size]?=some (.cells #[.int .i64 y0,.int .i64 y1,.int .i64 y2,.int .i64 y3,.string y4,.string y5,.string y6,.slice ya yb yc,.slice yd ye yf,.slice yg yh yi,.bool y7,.string y8] 27 (0,0)):=by rw[hw12];exact row12_set w3 (hg:=HRA3.out) ..
  have b12:Below w.heap.size w3 w12:=by rw[hw12];exact row12_below w3 _ _ (Nat.le_refl _) _ _ _ _ _ _ _ _ _ _ _ _
  have z12:w12.heap.size=w3.heap.size:=by rw[hw12,row12_size]
  have s12:∀ k,¬ k=w.heap.size→w12.heap[k]?=w3.heap[k]?:=fun k hk=>by rw[hw12];exact row12_other w3 _ k hk ..
  rw[←hw12]
  clear hw12 qa3 fa3
  have hcz:∀ j,w12.cell? ⟨w.heap.size,j,none⟩=(#[.int .i64 y0,.int .i64 y1,.int .i64 y2,.int .i64 y3,.string y4,.string y5,.string y6,.slice ya yb yc,.slice yd ye yf,.slice yg yh yi,.bool y7,.string y8]:Array Value)[j]?:=fun j=>cell_of_row w12 _ j _ _ _ r12
  refine bodyPost_ret (v:=.agg #[.int .i64 y0,.int .i64 y1,.int .i64 y2,.int .i64 y3,.string y4,.string y5,.string y6,.slice ya yb yc,.slice yd ye yf,.slice yg yh yi,.bool y7,.string y8]) (by simp[results,Tryz.results30,go_sem,hcz]) rfl ?_
  have hRk:∀ j,R j→w.heap.size+1≤j:=fun j hj=>by have:=(HM.out.new j hj).1;omega
  exact ⟨_,v,R,rfl,IsN.frame (fun j hj=>⟨hj,s12 j (by have:=hRk j hj;omega)⟩) _ _ HN.out,(HM.out.mono HK.out).put (fun j=>j=w.heap.size) (fun j hj=>⟨by omega,by omega,fun h=>by have:=hRk j h;omega,fun h=>by have:=(HM.out.own j h).1;omega⟩) s12 z12 ⟨b12.os,b12.tape,b12.output⟩⟩
theorem blkP_is {Ev:World→Prop} {P:ByteArray→Prop} (K:CntC Ev P) (w0:World) (hEv:Ev w0) (g:Nat) (hg0:w0.heap.size≤g) (s:ByteArray) (hs:s.size≤10000) (hPs:P s):∀ k,BlkC w0 g s (blkP s k):=by
 intro k
 induction k with
 | zero=>intro d p v o w _ _ _ _ _ h;exact h.elim
 | succ k ih=>
  intro d p v o w hB hv h hp hw ho
  subst hv
  rcases ho with ⟨h1,h2⟩|⟨h1,h2⟩
  ·exact trColl_deep g s d p o w h h1 h2
  ·split at h2
   ·rename_i hm
    rcases h2 with ⟨q,e,h3,rfl⟩|⟨r,h3,rfl⟩
    ·exact trColl_seq K w0 hEv g hg0 s hs hPs k ih d p _ w hB h hp h1 hm _ h3 rfl
    ·exact trColl_seq K w0 hEv g hg0 s hs hPs k ih d p _ w hB h hp h1 hm _ h3 rfl
   ·rename_i hm
    have hm:markB s p 45=false:=Bool.eq_false_iff.2 hm
    rcases h2 with ⟨q,e,h3,rfl⟩|⟨r,h3,rfl⟩
    ·exact trColl_map K w0 hEv g hg0 s hs hPs k ih d p _ w hB h hp hw h1 hm _ h3 rfl
    ·exact trColl_map K w0 hEv g hg0 s hs hPs k ih d p _ w hB h hp hw h1 hm _ h3 rfl
end Go.Proofs.YthcmkpiajkbpnaaGreatDoor
namespace Go.Proofs.YthcmkpiajkbpnaaGreatDoor
open Go.RowKit
def twice:List (List UInt8)→List (List UInt8)
 | []=>[]
 | w :: t=>w :: w :: twice t
section
variable {s:ByteArray} {col:Nat→Nat→Rd (NT × Nat)→Prop}
end
end Go.Proofs.YthcmkpiajkbpnaaGreatDoor
