/- Parts of the proof, put together from smaller texts (blanks that Lean does not want are struck). Conditions: those that each theorem writes out. -/
import Derived.Test.YthcmkpiajkbpnaaGreatDoorZ25
namespace Go.Proofs.YthcmkpiajkbpnaaGreatDoor
open Go.RowKit
def KeyG (g:Nat) (s:ByteArray) (w:World) (v:Value) (x:NT × Nat) (e:Ending) (w':World):Prop:=∃ cs R,e=.returned (.agg cs.toArray)∧IsN R w' x.1 cs∧(∀ k,R k→w.heap.size≤k∧k<w'.heap.size)∧TrAt g s x.2 v w'∧Keep (Lx g w.heap.size) w w'
def keyH (A T:List UInt8) (p E:Nat) (y:NT):NT:=if p<E then .mk { y.h with anchor:=A,tag:=T,at':=p } y.kids else y
theorem key_end {g:Nat} {s:ByteArray} {w w5 w12:World} {y:NT} {p E q nb:Nat} {v:Value} {R:Nat→Prop} {A T:List UInt8} {c0 c1 c2 c3 c4 c5 c6 c7 c8 c9 c10 c11 d2 d4 d5:Value} (hN:IsN R w5 y [c0,c1,c2,c3,c4,c5,c6,c7,c8,c9,c10,c11]) (hR:∀ k,R k→w.heap.size<k∧k<w5.heap.size∧k≠nb) (T5:TrAt g s q v w5) (k5:Keep (Lx g w.heap.size) w w5) (hnb:w.heap.size<nb) (hg:g<w.heap.size)
  (hd:if p<E then d2=.int .i64 (p:Int)∧d4=.string ⟨A.toArray⟩∧d5=.string ⟨T.toArray⟩ else d2=c2∧d4=c4∧d5=c5)
  (hs:∀ k,¬ k=w.heap.size→¬ k=nb→w12.heap[k]?=w5.heap[k]?) (hz:w12.heap.size=w5.heap.size) (ho:w12.os=w5.os∧w12.tape=w5.tape∧w12.output=w5.output) :
  KeyG g s w v (keyH A T p E y,q) (.returned (.agg #[c0,c1,d2,c3,d4,d5,c6,c7,c8,c9,c10,c11])) w12:=by
 refine ⟨_,R,rfl,?_,fun k hk=>⟨by have:=(hR k hk).1;omega,by rw[hz];exact (hR k hk).2.1⟩,(hs g (by omega) (by omega)).trans T5,k5.trans (Q:=fun k=>k<w.heap.size) ⟨ho.1,ho.2.1,ho.2.2,by omega,fun k hk=>hs k (by omega) (by omega)⟩ (fun _ hk=>hk.1)⟩
 obtain ⟨kv,lv,fv,e,h1,h2,h3⟩:=hN.open
 unfold headC at e
 simp only[List.cons.injEq,and_true] at e
 obtain ⟨rfl,rfl,rfl,rfl,rfl,rfl,rfl,rfl,rfl,rfl,rfl,rfl⟩:=e
 have fr:∀ b,R b→R b∧w12.heap[b]?=w5.heap[b]?:=fun b hb=>⟨hb,hs b (by have:=hR b hb;omega) (by have:=hR b hb;omega)⟩
 unfold keyH
 split at hd
 ·rename_i hc
  obtain ⟨rfl,rfl,rfl⟩:=hd
  rw[if_pos hc]
  exact IsN.shut (hd:={ y.h with anchor:=A,tag:=T,at':=p }) (h1.frame fr) (h2.frame fr) (h3.frame fr)
 ·rename_i hc
  obtain ⟨rfl,rfl,rfl⟩:=hd
  rw[if_neg hc]
  have h:=IsN.shut (hd:=y.h) (h1.frame fr) (h2.frame fr) (h3.frame fr)
  rwa [show NT.mk y.h y.kids=y by cases y;rfl] at h
set_option maxRecDepth 100000 in
set_option maxHeartbeats 3200000 in
theorem trKeyM_is {Ev:World→Prop} {P:ByteArray→Prop} (K:CntC Ev P) (w0:World) (hEv:Ev w0) (g:Nat) (hg0:w0.heap.size≤g) (s:ByteArray) (hs:s.size≤10000) (hPs:P s) (d p:Nat) (v:Value) (o:Rd (NT × Nat)) (w:World) (hB:Below w0.heap.size w0 w) (hv:∃ a n c,v=.slice a n c) (h:TrAt g s p v w) (ho:implP s d p o) :
  Calls Tryz.prog 125 #[.pointer (some ⟨g,0,none⟩),.int .i64 (d:Int)] w fun e w'=>TrPost g w o (KeyG g s w v) e w':=by
 obtain ⟨A,T,E,C,q,hZ,hpE,hE,hwh,hq,hqw,ho⟩:=ho
 obtain ⟨E,rfl⟩:∃ E',E=((E':Nat):Int):=⟨_,hE⟩
 rw[Int.toNat_natCast] at hpE hwh ho
 have hg:=h.lt
 obtain ⟨W1,hW1⟩:∃ W1,W1=w.alloc (.cells #[.int .i64 0,.int .i64 0,.int .i64 0,.int .i64 0,.string ⟨#[]⟩,.string ⟨#[]⟩,.string ⟨#[]⟩,.slice none 0 0,.slice none 0 0,.slice none 0 0,.bool false,.string ⟨#[]⟩] 27):=⟨_,rfl⟩
 have u1:W1.heap.size=w.heap.size+1:=by rw[hW1];simp
 have b1:Below w.heap.size w W1:=by rw[hW1];exact (Below.refl _ _).alloc (Nat.le_refl _) _
 have ra:W1.heap[w.heap.size]?=some (.cells #[.int .i64 0,.int .i64 0,.int .i64 0,.int .i64 0,.string ⟨#[]⟩,.string ⟨#[]⟩,.string ⟨#[]⟩,.slice none 0 0,.slice none 0 0,.slice none 0 0,.bool false,.string ⟨#[]⟩] 27 (0,0)):=by rw[hW1];exact heap_alloc_new w _
 have h1:=h.below b1 hg
 have B1:Below w0.heap.size w0 W1:=hB.trans (b1.mono hB.size)
 have c1:=h1.cell
 obtain ⟨va,vm,vc,rfl⟩:=hv
 have CP:=propRead_is A T (E:Int) C s (p:Int) false W1 (by omega) hZ
 have HW:=Lib.hid hW1
 have HB1:=Lib.hid B1
 have HT1:=Lib.hid h1
 clear hW1 hZ h1 B1 h hE
 go_enter Tryz.func125,Tryz.ntmps125
 go_upto_region 1 with fail
 rw[←HW.out]
 go_wp2_with fail
 refine CP.mono ?_
 rintro e w2 ⟨rfl,b2⟩
 clear CP
 have z2:=b2.size
 go_wp2_with fail
 refine (trBlank_is w2).mono ?_
 rintro e w3 ⟨rfl,b3⟩
 have z3:=b3.size
 go_upto_region 4 with fail
 obtain ⟨nb,hnb⟩:∃ nb,nb=w3.heap.size:=⟨_,rfl⟩
 obtain ⟨W4,hW4⟩:∃ W4,W4=w3.alloc (.cells #[.int .i64 1,.int .i64 1,.int .i64 (-1),.int .i64 0,.string ⟨#[]⟩,.string ⟨#[]⟩,.string ⟨#[]⟩,.slice none 0 0,.slice none 0 0,.slice none 0 0,.bool false,.string ⟨#[]⟩] 27):=⟨_,rfl⟩
 have z4:W4.heap.size=nb+1:=by rw[hW4,hnb];simp
 have rn4:W4.heap[nb]?=some (.cells #[.int .i64 1,.int .i64 1,.int .i64 (-1),.int .i64 0,.string ⟨#[]⟩,.string ⟨#[]⟩,.string ⟨#[]⟩,.slice none 0 0,.slice none 0 0,.slice none 0 0,.bool false,.string ⟨#[]⟩] 27 (0,0)):=by rw[hW4,hnb];exact heap_alloc_new w3 _
 have b4:Below w3.heap.size w3 W4:=by rw[hW4];exact (Below.refl _ _).alloc (Nat.le_refl _) _
 have b14:Below W1.heap.size W1 W4:=(b2.trans (b3.mono z2)).trans (b4.mono (Nat.le_trans z2 z3))
 have h4:=HT1.out.below b14 HT1.out.lt
 have B4:=HB1.out.trans (b14.mono HB1.out.size)
 have k4:Keep (Lx g w.heap.size) w W4:=(below_lx b1).lxB b14 b1.size
 have ra4:=(b14.block w.heap.size (by omega)).trans ra
 have c4:=h4.cell
 have f4:=h4.free
 rw[←hW4,←hnb]
 have hnz:w.heap.size<nb:=by omega
 have HNB:=Lib.hid hnb
 clear hnb hW4 b4 b14 b2 b3 b1 c1 ra
 go_wp2_with fail
 refine (trWhite_is s E q W4 hs hwh (by omega) (fun _=>hqw)).mono ?_
 rintro e w5 ⟨rfl,rfl⟩
 go_upto_region 5 with fail
 obtain ⟨W5,hW5⟩:∃ W5,W5=w5.setCell ⟨g,1,none⟩ (.int .i64 (q:Int)):=⟨_,rfl⟩
 have s5:∀ k,k≠g→W5.heap[k]?=w5.heap[k]?:=fun k hk=>by rw[hW5];exact heap_setCell_other _ _ _ _ hk
 have z5:W5.heap.size=w5.heap.size:=by rw[hW5];simp[World.setCell]
 have h5:TrAt g s q (.slice va vm vc) W5:=by rw[hW5];exact heap_setCell_same _ _ 1 _ _ _ h4
 have k5:Keep (Lx g w.heap.size) w W5:=k4.trans (by rw[hW5];exact tr_keep1 _ _ _) (fun _ hk=>hk)
 have B5:Below w0.heap.size w0 W5:=by rw[hW5];exact B4.setCell (p:=⟨g,1,none⟩) hg0 _
 rw[←hW5]
 clear hW5 c4 f4
 have rn5:=(s5 nb (by omega)).trans rn4
 have ra5:=(s5 w.heap.size (by omega)).trans ra4
 clear rn4 ra4 k4 B4 h4 s5
 obtain ⟨ko,hko,hoo⟩:∃ ko,(if markB s q 58=true then ko=.ok (voidN,q) else andR (leafR s (-1) d false q) (fun x o=>∃ c,WhN s x.2 c∧c<s.size∧U.white (byt s c:Int)=false∧o=.ok (x.1,c)) ko)∧o=rdMap (fun x=>(keyH A T p E x.1,x.2)) ko:=by
  rcases ho with ⟨r,c,h1,rfl⟩|⟨x,h1,rfl⟩
  ·exact ⟨_,h1,rfl⟩
  ·exact ⟨_,h1,rfl⟩
 clear ho
 obtain ⟨mk,hmk⟩:∃ mk,markB s q 58=mk:=⟨_,rfl⟩
 have CM:=trMark_is g s q (.slice va vm vc) W5 mk 58 h5 hs hmk
 go_wp2_with fail
 refine CM.mono ?_
 rintro e w6 ⟨rfl,j6,rfl⟩
 obtain ⟨w6,hw6⟩:∃ w6,w6=W5.drewN j6:=⟨_,rfl⟩
 have b6:Below W5.heap.size W5 w6:=by rw[hw6];exact Go.below_drewN (Below.refl _ _) _
 rw[←hw6]
 have z6:W5.heap.size≤w6.heap.size:=b6.size
 have h6:=h5.below b6 h5.lt
 have k6:=k5.lxB b6 k5.size
 have B6:=B5.trans (b6.mono B5.size)
 have rn6:=(b6.block nb (by omega)).trans rn5
 have ra6:=(b6.block w.heap.size (by omega)).trans ra5
 clear hw6 CM rn5 ra5 k5 B5 h5 b6
 cases mk with
 | true=>
  rw[hmk,if_pos rfl] at hko
  subst hko hoo
  have HN6:=Lib.hid (IsN.shut (R:=fun _=>False) (w:=w6) (hd:=voidH [] [] (-1)) (ComsR.nil _ _) (ComsR.nil _ _) (NodesR.nil _ _))
  have hRk:∀ k,(fun _:Nat=>False) k→w.heap.size<k∧k<w6.heap.size∧k≠nb:=fun _ h=>h.elim
  have KK:=Lib.hid k6
  have HT:=Lib.hid h6
  have HRA:=Lib.hid ra6
  have HRN:=Lib.hid rn6
  clear k6 h6 ra6 rn6
  go_upto_region 11 with fail
  by_cases hlt:p<E
  ·have hlI:(p:Int)<(E:Int):=by omega
   have qn8:∀ j,w6.cell? ⟨nb,j,none⟩=(#[.int .i64 1,.int .i64 1,.int .i64 (-1),.int .i64 0,.string ⟨#[]⟩,.string ⟨#[]⟩,.string ⟨#[]⟩,.slice none 0 0,.slice none 0 0,.slice none 0 0,.bool false,.string ⟨#[]⟩]:Array Value)[j]?:=fun j=>cell_of_row w6 _ j _ _ _ HRN.out
   have fn8:∀ j,w6.frozen? ⟨nb,j,none⟩=false:=fun j=>frozen_of_row w6 _ j _ _ HRN.out
   go_upto_region 13 with fail
   obtain ⟨w13,hw13⟩:∃ w13,w13=((w6.setCell ⟨nb,2,none⟩ (.int .i64 (p:Int))).setCell ⟨nb,4,none⟩ (.string ⟨A.toArray⟩)).setCell ⟨nb,5,none⟩ (.string ⟨T.toArray⟩):=⟨_,rfl⟩
   have rn13:w13.heap[nb]?=some (.cells #[.int .i64 1,.int .i64 1,.int .i64 (p:Int),.int .i64 0,.string ⟨A.toArray⟩,.string ⟨T.toArray⟩,.string ⟨#[]⟩,.slice none 0 0,.slice none 0 0,.slice none 0 0,.bool false,.string ⟨#[]⟩] 27 (0,0)):=by rw[hw13];exact heap_setCell_same _ _ 5 _ _ _ (heap_setCell_same _ _ 4 _ _ _ (heap_setCell_same _ _ 2 _ _ _ HRN.out))
   have s13:∀ k,¬ k=nb→w13.heap[k]?=w6.heap[k]?:=fun k hk=>by rw[hw13];exact (heap_setCell_other _ _ _ _ hk).trans ((heap_setCell_other _ _ _ _ hk).trans (heap_setCell_other _ _ _ _ hk))
   have z13:w13.heap.size=w6.heap.size:=by rw[hw13];simp[World.setCell]
   have o13:w13.os=w6.os∧w13.tape=w6.tape∧w13.output=w6.output:=by rw[hw13];exact ⟨rfl,rfl,rfl⟩
   rw[←hw13]
   clear hw13 qn8 fn8
   have ra13:=(s13 w.heap.size (by omega)).trans HRA.out
   have HAZ:=Lib.hid ra13
   have qn9:∀ j,w13.cell? ⟨nb,j,none⟩=(#[.int .i64 1,.int .i64 1,.int .i64 (p:Int),.int .i64 0,.string ⟨A.toArray⟩,.string ⟨T.toArray⟩,.string ⟨#[]⟩,.slice none 0 0,.slice none 0 0,.slice none 0 0,.bool false,.string ⟨#[]⟩]:Array Value)[j]?:=fun j=>cell_of_row w13 _ j _ _ _ rn13
   have fn9:∀ j,w13.frozen? ⟨nb,j,none⟩=false:=fun j=>frozen_of_row w13 _ j _ _ rn13
   have qa9:∀ j,w13.cell? ⟨w.heap.size,j,none⟩=(#[.int .i64 0,.int .i64 0,.int .i64 0,.int .i64 0,.string ⟨#[]⟩,.string ⟨#[]⟩,.string ⟨#[]⟩,.slice none 0 0,.slice none 0 0,.slice none 0 0,.bool false,.string ⟨#[]⟩]:Array Value)[j]?:=fun j=>cell_of_row w13 _ j _ _ _ ra13
   have fa9:∀ j,w13.frozen? ⟨w.heap.size,j,none⟩=false:=fun j=>frozen_of_row w13 _ j _ _ ra13
   clear rn13 ra13
   go_wp2
   obtain ⟨w14,hw14⟩:∃ w14,w14=((((((((((((w13.setCell ⟨w.heap.size,0,none⟩ (.int .i64 1)).setCell ⟨w.heap.size,1,none⟩ (.int .i64 1)).setCell ⟨w.heap.size,2,none⟩ (.int .i64 (p:Int))).setCell ⟨w.heap.size,3,none⟩ (.int .i64 0)).setCell ⟨w.heap.size,4,none⟩ (.string ⟨A.toArray⟩)).setCell ⟨w.heap.size,5,none⟩ (.string ⟨T.toArray⟩)).setCell ⟨w.heap.size,6,none⟩ (.string ⟨#[]⟩)).setCell ⟨w.heap.size,7,none⟩ (.slice none 0 0)).setCell ⟨w.heap.size,8,none⟩ (.slice none 0 0)).setCell ⟨w.heap.size,9,none⟩ (.slice none 0 0)).setCell ⟨w.heap.size,10,none⟩ (.bool false)).setCell ⟨w.heap.size,11,none⟩ (.string ⟨#[]⟩)):=⟨_,rfl⟩
   have rw14:w14.heap[w.heap.size]?=some (.cells #[.int .i64 1,.int .i64 1,.int .i64 (p:Int),.int .i64 0,.string ⟨A.toArray⟩,.string ⟨T.toArray⟩,.string ⟨#[]⟩,.slice none 0 0,.slice none 0 0,.slice none 0 0,.bool false,.string ⟨#[]⟩] 27 (0,0)):=by rw[hw14];exact row12_set w13 (hg:=HAZ.out) ..
   have bw14:Below (w.heap.size) w13 w14:=by rw[hw14];exact row12_below w13 _ _ (Nat.le_refl _) _ _ _ _ _ _ _ _ _ _ _ _
   have zw14:w14.heap.size=w13.heap.size:=by rw[hw14,row12_size]
   have sw14:∀ k,¬ k=w.heap.size→w14.heap[k]?=w13.heap[k]?:=fun k hk=>by rw[hw14];exact row12_other w13 _ k hk ..
   rw[←hw14]
   clear hw14
   have hcz:∀ j,w14.cell? ⟨w.heap.size,j,none⟩=(#[.int .i64 1,.int .i64 1,.int .i64 (p:Int),.int .i64 0,.string ⟨A.toArray⟩,.string ⟨T.toArray⟩,.string ⟨#[]⟩,.slice none 0 0,.slice none 0 0,.slice none 0 0,.bool false,.string ⟨#[]⟩]:Array Value)[j]?:=fun j=>cell_of_row w14 _ j _ _ _ rw14
   refine bodyPost_ret (v:=.agg #[.int .i64 1,.int .i64 1,.int .i64 (p:Int),.int .i64 0,.string ⟨A.toArray⟩,.string ⟨T.toArray⟩,.string ⟨#[]⟩,.slice none 0 0,.slice none 0 0,.slice none 0 0,.bool false,.string ⟨#[]⟩]) (by simp[results,Tryz.results125,go_sem,hcz]) rfl ?_
   exact key_end (nb:=nb) HN6.out hRk HT.out KK.out hnz hg (by rw[if_pos hlt];exact ⟨rfl,rfl,rfl⟩) (fun k h1 h2=>(sw14 k h1).trans (s13 k h2)) (by omega) ⟨bw14.os.trans o13.1,bw14.tape.trans o13.2.1,bw14.output.trans o13.2.2⟩
  ·have hlI:¬ (p:Int)<(E:Int):=by omega
   have HAZ:=Lib.hid HRA.out
   have qn9:∀ j,w6.cell? ⟨nb,j,none⟩=(#[.int .i64 1,.int .i64 1,.int .i64 (-1),.int .i64 0,.string ⟨#[]⟩,.string ⟨#[]⟩,.string ⟨#[]⟩,.slice none 0 0,.slice none 0 0,.slice none 0 0,.bool false,.string ⟨#[]⟩]:Array Value)[j]?:=fun j=>cell_of_row w6 _ j _ _ _ HRN.out
   have fn9:∀ j,w6.frozen? ⟨nb,j,none⟩=false:=fun j=>frozen_of_row w6 _ j _ _ HRN.out
   have qa9:∀ j,w6.cell? ⟨w.heap.size,j,none⟩=(#[.int .i64 0,.int .i64 0,.int .i64 0,.int .i64 0,.string ⟨#[]⟩,.string ⟨#[]⟩,.string ⟨#[]⟩,.slice none 0 0,.slice none 0 0,.slice none 0 0,.bool false,.string ⟨#[]⟩]:Array Value)[j]?:=fun j=>cell_of_row w6 _ j _ _ _ HRA.out
   have fa9:∀ j,w6.frozen? ⟨w.heap.size,j,none⟩=false:=fun j=>frozen_of_row w6 _ j _ _ HRA.out
   go_wp2
   obtain ⟨w14,hw14⟩:∃ w14,w14=((((((((((((w6.setCell ⟨w.heap.size,0,none⟩ (.int .i64 1)).setCell ⟨w.heap.size,1,none⟩ (.int .i64 1)).setCell ⟨w.heap.size,2,none⟩ (.int .i64 (-1))).setCell ⟨w.heap.size,3,none⟩ (.int .i64 0)).setCell ⟨w.heap.size,4,none⟩ (.string ⟨#[]⟩)).setCell ⟨w.heap.size,5,none⟩ (.string ⟨#[]⟩)).setCell ⟨w.heap.size,6,none⟩ (.string ⟨#[]⟩)).setCell ⟨w.heap.size,7,none⟩ (.slice none 0 0)).setCell ⟨w.heap.size,8,none⟩ (.slice none 0 0)).setCell ⟨w.heap.size,9,none⟩ (.slice none 0 0)).setCell ⟨w.heap.size,10,none⟩ (.bool false)).setCell ⟨w.heap.size,11,none⟩ (.string ⟨#[]⟩)):=⟨_,rfl⟩
   have rw14:w14.heap[w.heap.size]?=some (.cells #[.int .i64 1,.int .i64 1,.int .i64 (-1),.int .i64 0,.string ⟨#[]⟩,.string ⟨#[]⟩,.string ⟨#[]⟩,.slice none 0 0,.slice none 0 0,.slice none 0 0,.bool false,.string ⟨#[]⟩] 27 (0,0)):=by rw[hw14];exact row12_set w6 (hg:=HAZ.out) ..
   have bw14:Below (w.heap.size) w6 w14:=by rw[hw14];exact row12_below w6 _ _ (Nat.le_refl _) _ _ _ _ _ _ _ _ _ _ _ _
   have zw14:w14.heap.size=w6.heap.size:=by rw[hw14,row12_size]
   have sw14:∀ k,¬ k=w.heap.size→w14.heap[k]?=w6.heap[k]?:=fun k hk=>by rw[hw14];exact row12_other w6 _ k hk ..
   rw[←hw14]
   clear hw14
   have hcz:∀ j,w14.cell? ⟨w.heap.size,j,none⟩=(#[.int .i64 1,.int .i64 1,.int .i64 (-1),.int .i64 0,.string ⟨#[]⟩,.string ⟨#[]⟩,.string ⟨#[]⟩,.slice none 0 0,.slice none 0 0,.slice none 0 0,.bool false,.string ⟨#[]⟩]:Array Value)[j]?:=fun j=>cell_of_row w14 _ j _ _ _ rw14
   refine bodyPost_ret (v:=.agg #[.int .i64 1,.int .i64 1,.int .i64 (-1),.int .i64 0,.string ⟨#[]⟩,.string ⟨#[]⟩,.string ⟨#[]⟩,.slice none 0 0,.slice none 0 0,.slice none 0 0,.bool false,.string ⟨#[]⟩]) (by simp[results,Tryz.results125,go_sem,hcz]) rfl ?_
   exact key_end (nb:=nb) HN6.out hRk HT.out KK.out hnz hg (by rw[if_neg hlt];exact ⟨rfl,rfl,rfl⟩) (fun k h1 h2=>sw14 k h1) (by omega) ⟨bw14.os,bw14.tape,bw14.output⟩
 | false=>
  rw[hmk,if_neg (by decide)] at hko
  obtain ⟨lo,hlo,hrest⟩:∃ lo,leafR s (-1) d false q lo∧(match lo with | .bad r c=>ko=.bad r c | .ok x=>∃ c,WhN s x.2 c∧c<s.size∧U.white (byt s c:Int)=false∧ko=.ok (x.1,c)):=by
   rcases hko with ⟨r,c,h1,rfl⟩|⟨x,h1,h2⟩
   ·exact ⟨_,h1,rfl⟩
   ·exact ⟨_,h1,h2⟩
  clear hko
  have CC:=fun W hW=>K.cnt s q (-1) d lo W hs hPs hq hW hlo
  have HL:=Lib.hid hlo
  have hE6:Ev w6:=K.below _ _ hEv B6
  have HE:=Lib.hid hE6
  have HT6:=Lib.hid h6
  have HR6:=Lib.hid rn6
  have HA6:=Lib.hid ra6
  have HK6:=Lib.hid k6
  have HB6:=Lib.hid B6
  have z6n:nb<w6.heap.size:=by omega
  have z6g:=h6.lt
  have c6:=h6.cell
  have KB:∀ W:World,Below nb w6 W→((W.cell? ⟨g,0,none⟩=some (.string s)∧W.cell? ⟨g,1,none⟩=some (.int .i64 (q:Int)))∧Below nb w6 W):=fun W hb2=>⟨⟨(hb2.cell (p:=⟨g,0,none⟩) (by show g<nb;omega)).trans (c6 0),(hb2.cell (p:=⟨g,1,none⟩) (by show g<nb;omega)).trans (c6 1)⟩,hb2⟩
  have KS:∀ (W:World) i u,((W.cell? ⟨g,0,none⟩=some (.string s)∧W.cell? ⟨g,1,none⟩=some (.int .i64 (q:Int)))∧Below nb w6 W)→(((W.setCell ⟨nb,i,none⟩ u).cell? ⟨g,0,none⟩=some (.string s)∧(W.setCell ⟨nb,i,none⟩ u).cell? ⟨g,1,none⟩=some (.int .i64 (q:Int)))∧Below nb w6 ((W.setCell ⟨nb,i,none⟩ u))):=fun W i u hS=>KB _ (hS.2.setCell (p:=⟨nb,i,none⟩) (Nat.le_refl _) u)
  have hS0:((w6.drew.cell? ⟨g,0,none⟩=some (.string s)∧w6.drew.cell? ⟨g,1,none⟩=some (.int .i64 (q:Int)))∧Below nb w6 w6.drew):=KB _ (Below.refl _ _).drew
  have CS:Calls Tryz.prog 38 #[.string s,.int .i64 (q:Int),.int .i64 (-1),.int .i64 (d:Int)] w6.drew fun e w'=>CntPost w6.drew lo e w'∧Below w6.heap.size w6 w'∧((w'.cell? ⟨g,0,none⟩=some (.string s)∧w'.cell? ⟨g,1,none⟩=some (.int .i64 (q:Int)))∧Below nb w6 w'):=(CC _ (K.below _ _ HE.out (Below.refl _ _).drew)).mono fun e w' hc=>by
   have hb:Below w6.heap.size w6 w':=by obtain ⟨_,_,_,_,_,_,_,hb,_⟩:=hc;exact (Below.refl _ _).drew.trans hb
   exact ⟨hc,hb,KB w' (hb.mono (by omega))⟩
  clear c6 CC rn6 ra6 hE6 B6 k6 h6 hlo
  go_upto_region 8 with fail
  go_region_held3 (fun w'=>((w'.cell? ⟨g,0,none⟩=some (.string s)∧w'.cell? ⟨g,1,none⟩=some (.int .i64 (q:Int)))∧Below nb w6 w')) (first|(with_reducible assumption)|(with_reducible exact hS0)|((repeat (with_reducible refine KS _ _ _ ?_));(with_reducible assumption)))
   (first|(go_at_call 38;refine CS.mono ?_;rintro e w9 ⟨⟨cs,R,E9,C9,rfl,h12,hR,-,hm⟩,b9,hS9⟩;obtain ⟨y0,y1,y2,y3,y4,y5,y6,ya,yb,yc,yd,ye,yf,yg,yh,yi,y7,y8,rfl⟩:=h12;have rn9:=(b9.block nb z6n).trans HR6.out;have qy:∀ j,w9.cell? ⟨nb,j,none⟩=(#[.int .i64 1,.int .i64 1,.int .i64 (-1),.int .i64 0,.string ⟨#[]⟩,.string ⟨#[]⟩,.string ⟨#[]⟩,.slice none 0 0,.slice none 0 0,.slice none 0 0,.bool false,.string ⟨#[]⟩]:Array Value)[j]?:=fun j=>cell_of_row _ _ j _ _ _ rn9;have fy:∀ j,w9.frozen? ⟨nb,j,none⟩=false:=fun j=>frozen_of_row _ _ j _ _ rn9))
  obtain ⟨WA,hWA⟩:∃ WA,WA=((((((((((((w9.setCell ⟨nb,0,none⟩ (.int .i64 y0)).setCell ⟨nb,1,none⟩ (.int .i64 y1)).setCell ⟨nb,2,none⟩ (.int .i64 y2)).setCell ⟨nb,3,none⟩ (.int .i64 y3)).setCell ⟨nb,4,none⟩ (.string y4)).setCell ⟨nb,5,none⟩ (.string y5)).setCell ⟨nb,6,none⟩ (.string y6)).setCell ⟨nb,7,none⟩ (.slice ya yb yc)).setCell ⟨nb,8,none⟩ (.slice yd ye yf)).setCell ⟨nb,9,none⟩ (.slice yg yh yi)).setCell ⟨nb,10,none⟩ (.bool y7)).setCell ⟨nb,11,none⟩ (.string y8)):=⟨_,rfl⟩
  have rnA:WA.heap[nb]?=some (.cells #[.int .i64 y0,.int .i64 y1,.int .i64 y2,.int .i64 y3,.string y4,.string y5,.string y6,.slice ya yb yc,.slice yd ye yf,.slice yg yh yi,.bool y7,.string y8] 27 (0,0)):=by rw[hWA];exact row12_set w9 (hg:=(b9.block nb z6n).trans HR6.out) ..
  have sA:∀ k,¬ k=nb→WA.heap[k]?=w9.heap[k]?:=fun k hk=>by rw[hWA];exact row12_other w9 _ k hk ..
  have zA:WA.heap.size=w9.heap.size:=by rw[hWA,row12_size]
  have bA:Below nb w9 WA:=by rw[hWA];exact row12_below w9 _ _ (Nat.le_refl _) _ _ _ _ _ _ _ _ _ _ _ _
  rw[←hWA]
  clear hWA qy fy hS9 CS KS KB hS0
  have z9:=b9.size
  have raA:=(sA w.heap.size (by omega)).trans ((b9.block w.heap.size (by omega)).trans HA6.out)
  have hA:TrAt g s q (.slice va vm vc) WA:=(sA g (by omega)).trans ((b9.block g (by omega)).trans HT6.out)
  have kA:Keep (Lx g w.heap.size) w WA:=(HK6.out.lxB b9 HK6.out.size).trans (Q:=fun k=>k<nb) (Keep.of bA (fun _ h=>h)) (fun _ hk=>by have:=hk.1;show _<nb;omega)
  have hRk:∀ k,R k→w.heap.size<k∧k<WA.heap.size∧k≠nb:=fun k hk=>by
   have h1:=(hR k hk).1
   have h2:=(hR k hk).2
   have h1:w6.heap.size≤k:=h1
   omega
  cases lo with
  | bad r c=>
   obtain ⟨rfl,hc0,rfl⟩:=hm
   have hrest:ko=.bad r C9:=hrest
   subst hrest hoo
   go_wp2_with fail
   refine (trExpect_bad r C9 hc0 _).mono ?_
   rintro e w10 ⟨rfl,rfl⟩
   exact ⟨rfl,rfl,kA⟩
  | ok x=>
   obtain ⟨rfl,rfl,hN⟩:=hm
   obtain ⟨c,hwc,hc,hcw,hko⟩:=hrest
   subst hko hoo
   have hNA:IsN R WA x.1 [.int .i64 y0,.int .i64 y1,.int .i64 y2,.int .i64 y3,.string y4,.string y5,.string y6,.slice ya yb yc,.slice yd ye yf,.slice yg yh yi,.bool y7,.string y8]:=IsN.frame (fun k hk=>⟨hk,sA k (by have:=hRk k hk;omega)⟩) x.1 _ hN
   have cA:=hA.cell
   have fA:=hA.free
   clear hN
   go_wp2_with fail
   refine (trExpect_ok x.2 _).mono ?_
   rintro e w10 ⟨rfl,rfl⟩
   have HNA:=Lib.hid hNA
   have HRN0:=Lib.hid rnA
   have HRA0:=Lib.hid raA
   have HT0:=Lib.hid hA
   have HK0:=Lib.hid kA
   clear hNA rnA raA hA kA
   go_wp2_with fail
   refine (trWhite_is s x.2 c w10 hs hwc (by omega) (fun _=>hcw)).mono ?_
   rintro e w11 ⟨rfl,rfl⟩
   go_upto_region 11 with fail
   obtain ⟨WB,hWB⟩:∃ WB,WB=w11.setCell ⟨g,1,none⟩ (.int .i64 (c:Int)):=⟨_,rfl⟩
   have sB:∀ k,k≠g→WB.heap[k]?=w11.heap[k]?:=fun k hk=>by rw[hWB];exact heap_setCell_other _ _ _ _ hk
   have zB:WB.heap.size=w11.heap.size:=by rw[hWB];simp[World.setCell]
   have hTB:TrAt g s c (.slice va vm vc) WB:=by rw[hWB];exact heap_setCell_same _ _ 1 _ _ _ HT0.out
   have kB:Keep (Lx g w.heap.size) w WB:=HK0.out.trans (by rw[hWB];exact tr_keep1 _ _ _) (fun _ hk=>hk)
   rw[←hWB]
   clear hWB cA fA
   have HN6:=Lib.hid (IsN.frame (w':=WB) (fun k hk=>⟨hk,sB k (by have:=hRk k hk;omega)⟩) x.1 _ HNA.out)
   have hRk:∀ k,R k→w.heap.size<k∧k<WB.heap.size∧k≠nb:=fun k hk=>by have:=hRk k hk;omega
   have KK:=Lib.hid kB
   have HT:=Lib.hid hTB
   have HRA:=Lib.hid ((sB w.heap.size (by omega)).trans HRA0.out)
   have HRN:=Lib.hid ((sB nb (by omega)).trans HRN0.out)
   clear kB hTB sB
   by_cases hlt:p<E
   ·have hlI:(p:Int)<(E:Int):=by omega
    have qn8:∀ j,WB.cell? ⟨nb,j,none⟩=(#[.int .i64 y0,.int .i64 y1,.int .i64 y2,.int .i64 y3,.string y4,.string y5,.string y6,.slice ya yb yc,.slice yd ye yf,.slice yg yh yi,.bool y7,.string y8]:Array Value)[j]?:=fun j=>cell_of_row WB _ j _ _ _ HRN.out
    have fn8:∀ j,WB.frozen? ⟨nb,j,none⟩=false:=fun j=>frozen_of_row WB _ j _ _ HRN.out
    go_upto_region 13 with fail
    obtain ⟨w13,hw13⟩:∃ w13,w13=((WB.setCell ⟨nb,2,none⟩ (.int .i64 (p:Int))).setCell ⟨nb,4,none⟩ (.string ⟨A.toArray⟩)).setCell ⟨nb,5,none⟩ (.string ⟨T.toArray⟩):=⟨_,rfl⟩
    have rn13:w13.heap[nb]?=some (.cells #[.int .i64 y0,.int .i64 y1,.int .i64 (p:Int),.int .i64 y3,.string ⟨A.toArray⟩,.string ⟨T.toArray⟩,.string y6,.slice ya yb yc,.slice yd ye yf,.slice yg yh yi,.bool y7,.string y8] 27 (0,0)):=by rw[hw13];exact heap_setCell_same _ _ 5 _ _ _ (heap_setCell_same _ _ 4 _ _ _ (heap_setCell_same _ _ 2 _ _ _ HRN.out))
    have s13:∀ k,¬ k=nb→w13.heap[k]?=WB.heap[k]?:=fun k hk=>by rw[hw13];exact (heap_setCell_other _ _ _ _ hk).trans ((heap_setCell_other _ _ _ _ hk).trans (heap_setCell_other _ _ _ _ hk))
    have z13:w13.heap.size=WB.heap.size:=by rw[hw13];simp[World.setCell]
    have o13:w13.os=WB.os∧w13.tape=WB.tape∧w13.output=WB.output:=by rw[hw13];exact ⟨rfl,rfl,rfl⟩
    rw[←hw13]
    clear hw13 qn8 fn8
    have ra13:=(s13 w.heap.size (by omega)).trans HRA.out
    have HAZ:=Lib.hid ra13
    have qn9:∀ j,w13.cell? ⟨nb,j,none⟩=(#[.int .i64 y0,.int .i64 y1,.int .i64 (p:Int),.int .i64 y3,.string ⟨A.toArray⟩,.string ⟨T.toArray⟩,.string y6,.slice ya yb yc,.slice yd ye yf,.slice yg yh yi,.bool y7,.string y8]:Array Value)[j]?:=fun j=>cell_of_row w13 _ j _ _ _ rn13
    have fn9:∀ j,w13.frozen? ⟨nb,j,none⟩=false:=fun j=>frozen_of_row w13 _ j _ _ rn13
    have qa9:∀ j,w13.cell? ⟨w.heap.size,j,none⟩=(#[.int .i64 0,.int .i64 0,.int .i64 0,.int .i64 0,.string ⟨#[]⟩,.string ⟨#[]⟩,.string ⟨#[]⟩,.slice none 0 0,.slice none 0 0,.slice none 0 0,.bool false,.string ⟨#[]⟩]:Array Value)[j]?:=fun j=>cell_of_row w13 _ j _ _ _ ra13
    have fa9:∀ j,w13.frozen? ⟨w.heap.size,j,none⟩=false:=fun j=>frozen_of_row w13 _ j _ _ ra13
    clear rn13 ra13
    go_wp2
    obtain ⟨w14,hw14⟩:∃ w14,w14=((((((((((((w13.setCell ⟨w.heap.size,0,none⟩ (.int .i64 y0)).setCell ⟨w.heap.size,1,none⟩ (.int .i64 y1)).setCell ⟨w.heap.size,2,none⟩ (.int .i64 (p:Int))).setCell ⟨w.heap.size,3,none⟩ (.int .i64 y3)).setCell ⟨w.heap.size,4,none⟩ (.string ⟨A.toArray⟩)).setCell ⟨w.heap.size,5,none⟩ (.string ⟨T.toArray⟩)).setCell ⟨w.heap.size,6,none⟩ (.string y6)).setCell ⟨w.heap.size,7,none⟩ (.slice ya yb yc)).setCell ⟨w.heap.size,8,none⟩ (.slice yd ye yf)).setCell ⟨w.heap.size,9,none⟩ (.slice yg yh yi)).setCell ⟨w.heap.size,10,none⟩ (.bool y7)).setCell ⟨w.heap.size,11,none⟩ (.string y8)):=⟨_,rfl⟩
    have rw14:w14.heap[w.heap.size]?=some (.cells #[.int .i64 y0,.int .i64 y1,.int .i64 (p:Int),.int .i64 y3,.string ⟨A.toArray⟩,.string ⟨T.toArray⟩,.string y6,.slice ya yb yc,.slice yd ye yf,.slice yg yh yi,.bool y7,.string y8] 27 (0,0)):=by rw[hw14];exact row12_set w13 (hg:=HAZ.out) ..
    have bw14:Below (w.heap.size) w13 w14:=by rw[hw14];exact row12_below w13 _ _ (Nat.le_refl _) _ _ _ _ _ _ _ _ _ _ _ _
    have zw14:w14.heap.size=w13.heap.size:=by rw[hw14,row12_size]
    have sw14:∀ k,¬ k=w.heap.size→w14.heap[k]?=w13.heap[k]?:=fun k hk=>by rw[hw14];exact row12_other w13 _ k hk ..
    rw[←hw14]
    clear hw14
    have hcz:∀ j,w14.cell? ⟨w.heap.size,j,none⟩=(#[.int .i64 y0,.int .i64 y1,.int .i64 (p:Int),.int .i64 y3,.string ⟨A.toArray⟩,.string ⟨T.toArray⟩,.string y6,.slice ya yb yc,.slice yd ye yf,.slice yg yh yi,.bool y7,.string y8]:Array Value)[j]?:=fun j=>cell_of_row w14 _ j _ _ _ rw14
    refine bodyPost_ret (v:=.agg #[.int .i64 y0,.int .i64 y1,.int .i64 (p:Int),.int .i64 y3,.string ⟨A.toArray⟩,.string ⟨T.toArray⟩,.string y6,.slice ya yb yc,.slice yd ye yf,.slice yg yh yi,.bool y7,.string y8]) (by simp[results,Tryz.results125,go_sem,hcz]) rfl ?_
    exact key_end (nb:=nb) HN6.out hRk HT.out KK.out hnz hg (by rw[if_pos hlt];exact ⟨rfl,rfl,rfl⟩) (fun k h1 h2=>(sw14 k h1).trans (s13 k h2)) (by omega) ⟨bw14.os.trans o13.1,bw14.tape.trans o13.2.1,bw14.output.trans o13.2.2⟩
   ·have hlI:¬ (p:Int)<(E:Int):=by omega
    have HAZ:=Lib.hid HRA.out
    have qn9:∀ j,WB.cell? ⟨nb,j,none⟩=(#[.int .i64 y0,.int .i64 y1,.int .i64 y2,.int .i64 y3,.string y4,.string y5,.string y6,.slice ya yb yc,.slice yd ye yf,.slice yg yh yi,.bool y7,.string y8]:Array Value)[j]?:=fun j=>cell_of_row WB _ j _ _ _ HRN.out
    have fn9:∀ j,WB.frozen? ⟨nb,j,none⟩=false:=fun j=>frozen_of_row WB _ j _ _ HRN.out
    have qa9:∀ j,WB.cell? ⟨w.heap.size,j,none⟩=(#[.int .i64 0,.int .i64 0,.int .i64 0,.int .i64 0,.string ⟨#[]⟩,.string ⟨#[]⟩,.string ⟨#[]⟩,.slice none 0 0,.slice none 0 0,.slice none 0 0,.bool false,.string ⟨#[]⟩]:Array Value)[j]?:=fun j=>cell_of_row WB _ j _ _ _ HRA.out
    have fa9:∀ j,WB.frozen? ⟨w.heap.size,j,none⟩=false:=fun j=>frozen_of_row WB _ j _ _ HRA.out
    go_wp2
    obtain ⟨w14,hw14⟩:∃ w14,w14=((((((((((((WB.setCell ⟨w.heap.size,0,none⟩ (.int .i64 y0)).setCell ⟨w.heap.size,1,none⟩ (.int .i64 y1)).setCell ⟨w.heap.size,2,none⟩ (.int .i64 y2)).setCell ⟨w.heap.size,3,none⟩ (.int .i64 y3)).setCell ⟨w.heap.size,4,none⟩ (.string y4)).setCell ⟨w.heap.size,5,none⟩ (.string y5)).setCell ⟨w.heap.size,6,none⟩ (.string y6)).setCell ⟨w.heap.size,7,none⟩ (.slice ya yb yc)).setCell ⟨w.heap.size,8,none⟩ (.slice yd ye yf)).setCell ⟨w.heap.size,9,none⟩ (.slice yg yh yi)).setCell ⟨w.heap.size,10,none⟩ (.bool y7)).setCell ⟨w.heap.size,11,none⟩ (.string y8)):=⟨_,rfl⟩
    have rw14:w14.heap[w.heap.size]?=some (.cells #[.int .i64 y0,.int .i64 y1,.int .i64 y2,.int .i64 y3,.string y4,.string y5,.string y6,.slice ya yb yc,.slice yd ye yf,.slice yg yh yi,.bool y7,.string y8] 27 (0,0)):=by rw[hw14];exact row12_set WB (hg:=HAZ.out) ..
    have bw14:Below (w.heap.size) WB w14:=by rw[hw14];exact row12_below WB _ _ (Nat.le_refl _) _ _ _ _ _ _ _ _ _ _ _ _
    have zw14:w14.heap.size=WB.heap.size:=by rw[hw14,row12_size]
    have sw14:∀ k,¬ k=w.heap.size→w14.heap[k]?=WB.heap[k]?:=fun k hk=>by rw[hw14];exact row12_other WB _ k hk ..
    rw[←hw14]
    clear hw14
    have hcz:∀ j,w14.cell? ⟨w.heap.size,j,none⟩=(#[.int .i64 y0,.int .i64 y1,.int .i64 y2,.int .i64 y3,.string y4,.string y5,.string y6,.slice ya yb yc,.slice yd ye yf,.slice yg yh yi,.bool y7,.string y8]:Array Value)[j]?:=fun j=>cell_of_row w14 _ j _ _ _ rw14
    refine bodyPost_ret (v:=.agg #[.int .i64 y0,.int .i64 y1,.int .i64 y2,.int .i64 y3,.string y4,.string y5,.string y6,.slice ya yb yc,.slice yd ye yf,.slice yg yh yi,.bool y7,.string y8]) (by simp[results,Tryz.results125,go_sem,hcz]) rfl ?_
    exact key_end (nb:=nb) HN6.out hRk HT.out KK.out hnz hg (by rw[if_neg hlt];exact ⟨rfl,rfl,rfl⟩) (fun k h1 h2=>sw14 k h1) (by omega) ⟨bw14.os,bw14.tape,bw14.output⟩
end Go.Proofs.YthcmkpiajkbpnaaGreatDoor
