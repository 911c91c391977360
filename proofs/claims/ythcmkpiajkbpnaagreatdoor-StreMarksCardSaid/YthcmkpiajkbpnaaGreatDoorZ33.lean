/- Parts of the proof, put together from smaller texts (blanks that Lean does not want are struck). Conditions: those that each theorem writes out. -/
import Derived.BigQuiet
import Derived.Deep.DrawnRows
import Derived.Deep.RegionWith
import Derived.Defers
import Derived.Recover
import Derived.Stop.Asserts
import Derived.Test.YthcmkpiajkbpnaaGreatDoorZ01
import Derived.Test.YthcmkpiajkbpnaaGreatDoorZ11
import Derived.Test.YthcmkpiajkbpnaaGreatDoorZ12
import Derived.Test.YthcmkpiajkbpnaaGreatDoorZ19
import Derived.Test.YthcmkpiajkbpnaaGreatDoorZ32
namespace Go.Proofs.YthcmkpiajkbpnaaGreatDoor
open Go.RowKit
def onlyN (Q:Exit→Act→World→Prop):Exit→Act→World→Prop
 | .normal,a,w=>Q .normal a w
 | _,_,_=>False
theorem wp_onlyN {P:Program} {c:Code} {Q:Exit→Act→World→Prop} {a:Act} {w:World} (h:c.wp P (onlyN Q) a w):c.wp P Q a w:=wp_mono h fun e a w hq=>by
 cases e with
 | normal=>exact hq
 | _=>exact hq.elim
theorem onlyN_then {K:Act→World→Prop} {Q:Exit→Act→World→Prop} {a:Act} {w:World} (h:K a w):onlyN (Exit.then K Q) .normal a w:=h
theorem wpS_rest {P:Program} {c:Code} {fn:Func} {c₀:Frame} {cs cs':List Frame} {R:Ending→FrameMode→World→Prop} {a:Act} {w:World} (u0:FrameMode) (hcs:cs'={ c₀ with mode:=u0 } :: cs) (h:c.wp P (bodyPost P fn fun e w'=>R e u0 w') a w):c.wpS P (bodyPostS P fn c₀ cs R) a cs' w:=by
 subst hcs
 refine wpS_of_wp (wp_mono h fun e a w hq=>?_)
 cases e with
 | normal=>obtain ⟨hd,v,hr,hR⟩:=hq;exact ⟨hd,u0,rfl,v,hr,hR⟩
 | ret=>obtain ⟨hd,v,hr,hR⟩:=hq;exact ⟨hd,u0,rfl,v,hr,hR⟩
 | panic ch=>exact ⟨hq.1,u0,rfl,hq.2⟩
 | outgrown=>exact ⟨u0,hq⟩
 | exit id=>exact hq.elim
 | goto l=>exact hq.elim
set_option maxRecDepth 100000 in
theorem trCatch_idle (p0 p1 p2 p3:Addr) (w:World) :
  CallsD Tryz.prog 14 #[.pointer (some p0),.pointer (some p1),.pointer (some p2),.pointer (some p3)] .returning w fun e u' w'=>e=.returned (.tuple #[])∧u'=.returning∧w'=w:=by
 refine callsD_of_wpS Tryz.func14 rfl fun c₀ cs hu=>?_
 simp only[Tryz.ntmps14,List.size_toArray,List.length_cons,List.length_nil,Nat.reduceAdd,Nat.reduceSub,Array.replicate_succ,Array.replicate_zero,List.push_toArray,List.append_toArray,List.nil_append,List.cons_append]
 apply wpS_seq
 apply wpS_region
 simp[wpOpsS,go_sem,recoverD,hu,Exit.thenS]
 refine wpS_rest .returning (by cases c₀;simp_all) ?_
 go_wp2
 go_end0
 simp
theorem fault_is (v:Value) (w:World):(Instr.typeAssert (.iface 51 v) 20 51 false).run Tryz.prog w=.ok v w:=by kernel_rfl
set_option maxRecDepth 100000 in
theorem trCatch_panic (a:Nat) (q c:Int) (u0 u1 u2 u3 u4 u5 u6 u7 u8 u9 u10 u11 lv x y:Value) (w:World)
  (h0:w.heap[a]?=some (.cells #[u0,u1,u2,u3,u4,u5,u6,u7,u8,u9,u10,u11] 27 (0,0))) (h1:w.heap[a+1]?=some (.cells #[lv] 25 (0,0))) (h2:w.heap[a+2]?=some (.cells #[x] 3 (0,0))) (h3:w.heap[a+3]?=some (.cells #[y] 28 (0,0))) :
  CallsD Tryz.prog 14 #[.pointer (some ⟨a,0,none⟩),.pointer (some ⟨a+1,0,none⟩),.pointer (some ⟨a+2,0,none⟩),.pointer (some ⟨a+3,0,none⟩)] (.panicking [{ v:=.iface 51 (.agg #[.int .i64 q,.int .i64 c]),recovered:=false }]) w fun e u' w'=>e=.returned (.tuple #[])∧u'=.panicking [{ v:=.iface 51 (.agg #[.int .i64 q,.int .i64 c]),recovered:=true }]∧Below a w w' ∧
   w'.heap[a]?=some (.cells #[.int .i64 0,.int .i64 0,.int .i64 0,.int .i64 0,.string ⟨#[]⟩,.string ⟨#[]⟩,.string ⟨#[]⟩,.slice none 0 0,.slice none 0 0,.slice none 0 0,.bool false,.string ⟨#[]⟩] 27 (0,0))∧w'.heap[a+1]?=some (.cells #[.slice none 0 0] 25 (0,0))∧w'.heap[a+2]?=some (.cells #[.int .i64 q] 3 (0,0))∧w'.heap[a+3]?=some (.cells #[.int .i64 c] 28 (0,0)):=by
 have hz:a+3<w.heap.size:=(Array.getElem?_eq_some_iff.1 h3).1
 have HA:=fault_is (.agg #[.int .i64 q,.int .i64 c])
 refine callsD_of_wpS Tryz.func14 rfl fun c₀ cs hu=>?_
 simp only[Tryz.ntmps14,List.size_toArray,List.length_cons,List.length_nil,Nat.reduceAdd,Nat.reduceSub,Array.replicate_succ,Array.replicate_zero,List.push_toArray,List.append_toArray,List.nil_append,List.cons_append]
 apply wpS_seq
 apply wpS_region
 simp[wpOpsS,go_sem,recoverD,hu,Exit.thenS]
 refine wpS_rest (.panicking [{ v:=.iface 51 (.agg #[.int .i64 q,.int .i64 c]),recovered:=true }]) rfl ?_
 go_wp2_with fail
 obtain ⟨W,hW⟩:∃ W,W=w.alloc (.cells #[.int .i64 q,.int .i64 c] 51):=⟨_,rfl⟩
 rw[←hW]
 have b1:Below w.heap.size w W:=by rw[hW];exact (Below.refl _ _).alloc (Nat.le_refl _) _
 have g0:=(b1.block a (by omega)).trans h0
 have g1:=(b1.block (a+1) (by omega)).trans h1
 have g2:=(b1.block (a+2) (by omega)).trans h2
 have g3:=(b1.block (a+3) (by omega)).trans h3
 have r5:W.heap[w.heap.size]?=some (.cells #[.int .i64 q,.int .i64 c] 51 (0,0)):=by rw[hW];exact heap_alloc_new w _
 have q5:∀ j,W.cell? ⟨w.heap.size,j,none⟩=(#[.int .i64 q,.int .i64 c]:Array Value)[j]?:=fun j=>cell_of_row W _ j _ _ _ r5
 have q0:∀ j,W.cell? ⟨a,j,none⟩=(#[u0,u1,u2,u3,u4,u5,u6,u7,u8,u9,u10,u11]:Array Value)[j]?:=fun j=>cell_of_row W _ j _ _ _ g0
 have q1:∀ j,W.cell? ⟨a+1,j,none⟩=(#[lv]:Array Value)[j]?:=fun j=>cell_of_row W _ j _ _ _ g1
 have q2:∀ j,W.cell? ⟨a+2,j,none⟩=(#[x]:Array Value)[j]?:=fun j=>cell_of_row W _ j _ _ _ g2
 have q3:∀ j,W.cell? ⟨a+3,j,none⟩=(#[y]:Array Value)[j]?:=fun j=>cell_of_row W _ j _ _ _ g3
 have f0:∀ j,W.frozen? ⟨a,j,none⟩=false:=fun j=>frozen_of_row W _ j _ _ g0
 have f1:∀ j,W.frozen? ⟨a+1,j,none⟩=false:=fun j=>frozen_of_row W _ j _ _ g1
 have f2:∀ j,W.frozen? ⟨a+2,j,none⟩=false:=fun j=>frozen_of_row W _ j _ _ g2
 have f3:∀ j,W.frozen? ⟨a+3,j,none⟩=false:=fun j=>frozen_of_row W _ j _ _ g3
 clear hu h0 h1 h2 h3 hW
 obtain ⟨n,hn⟩:∃ n,n=w.heap.size:=⟨_,rfl⟩
 rw[←hn] at hz q5 r5 b1 ⊢
 clear hn
 go_region
 go_end0
 obtain ⟨w12,hw12⟩:∃ w12,w12=((((((((((((W.setCell ⟨a,0,none⟩ (.int .i64 0)).setCell ⟨a,1,none⟩ (.int .i64 0)).setCell ⟨a,2,none⟩ (.int .i64 0)).setCell ⟨a,3,none⟩ (.int .i64 0)).setCell ⟨a,4,none⟩ (.string ⟨#[]⟩)).setCell ⟨a,5,none⟩ (.string ⟨#[]⟩)).setCell ⟨a,6,none⟩ (.string ⟨#[]⟩)).setCell ⟨a,7,none⟩ (.slice none 0 0)).setCell ⟨a,8,none⟩ (.slice none 0 0)).setCell ⟨a,9,none⟩ (.slice none 0 0)).setCell ⟨a,10,none⟩ (.bool false)).setCell ⟨a,11,none⟩ (.string ⟨#[]⟩)):=⟨_,rfl⟩
 have r12:w12.heap[a]?=some (.cells #[.int .i64 0,.int .i64 0,.int .i64 0,.int .i64 0,.string ⟨#[]⟩,.string ⟨#[]⟩,.string ⟨#[]⟩,.slice none 0 0,.slice none 0 0,.slice none 0 0,.bool false,.string ⟨#[]⟩] 27 (0,0)):=by rw[hw12];exact row12_set W (hg:=g0) ..
 have b12:Below a W w12:=by rw[hw12];exact row12_below W _ _ (Nat.le_refl _) _ _ _ _ _ _ _ _ _ _ _ _
 have s12:∀ k,¬ k=a→w12.heap[k]?=W.heap[k]?:=fun k hk=>by rw[hw12];exact row12_other W _ k hk ..
 rw[←hw12]
 clear hw12
 have b15:Below a W (((w12.setCell ⟨a+1,0,none⟩ (.slice none 0 0)).setCell ⟨a+2,0,none⟩ (.int .i64 q)).setCell ⟨a+3,0,none⟩ (.int .i64 c)):=(((b12.setCell (p:=⟨a+1,0,none⟩) (by simp) _).setCell (p:=⟨a+2,0,none⟩) (by simp) _).setCell (p:=⟨a+3,0,none⟩) (by simp) _)
 have t0:(((w12.setCell ⟨a+1,0,none⟩ (.slice none 0 0)).setCell ⟨a+2,0,none⟩ (.int .i64 q)).setCell ⟨a+3,0,none⟩ (.int .i64 c)).heap[a]?=some (.cells #[.int .i64 0,.int .i64 0,.int .i64 0,.int .i64 0,.string ⟨#[]⟩,.string ⟨#[]⟩,.string ⟨#[]⟩,.slice none 0 0,.slice none 0 0,.slice none 0 0,.bool false,.string ⟨#[]⟩] 27 (0,0)):=(heap_setCell_other _ _ _ _ (by simp)).trans ((heap_setCell_other _ _ _ _ (by simp)).trans ((heap_setCell_other _ _ _ _ (by simp)).trans r12))
 have t1:(((w12.setCell ⟨a+1,0,none⟩ (.slice none 0 0)).setCell ⟨a+2,0,none⟩ (.int .i64 q)).setCell ⟨a+3,0,none⟩ (.int .i64 c)).heap[a+1]?=some (.cells #[.slice none 0 0] 25 (0,0)):=(heap_setCell_other _ _ _ _ (by simp)).trans ((heap_setCell_other _ _ _ _ (by simp)).trans (heap_setCell_same _ _ 0 _ _ _ ((s12 (a+1) (by simp)).trans g1)))
 have t2:(((w12.setCell ⟨a+1,0,none⟩ (.slice none 0 0)).setCell ⟨a+2,0,none⟩ (.int .i64 q)).setCell ⟨a+3,0,none⟩ (.int .i64 c)).heap[a+2]?=some (.cells #[.int .i64 q] 3 (0,0)):=(heap_setCell_other _ _ _ _ (by simp)).trans (heap_setCell_same _ _ 0 _ _ _ ((heap_setCell_other _ _ _ _ (by simp)).trans ((s12 (a+2) (by simp)).trans g2)))
 have t3:(((w12.setCell ⟨a+1,0,none⟩ (.slice none 0 0)).setCell ⟨a+2,0,none⟩ (.int .i64 q)).setCell ⟨a+3,0,none⟩ (.int .i64 c)).heap[a+3]?=some (.cells #[.int .i64 c] 28 (0,0)):=heap_setCell_same _ _ 0 _ _ _ ((heap_setCell_other _ _ _ _ (by simp)).trans ((heap_setCell_other _ _ _ _ (by simp)).trans ((s12 (a+3) (by simp)).trans g3)))
 exact ⟨rfl,rfl,(b1.mono (by omega)).trans b15.drew,t0,t1,t2,t3⟩
set_option maxRecDepth 100000 in
set_option maxHeartbeats 6400000 in
theorem trReadN_is {Ev:World→Prop} {P:ByteArray→Prop} (K:CntC Ev P) (x:Option NT) (L:Coms) (E C:Int) (s:ByteArray) (at':Int) (beside:Bool) (w:World) (hs:s.size≤10000) (hPs:P s) (hEv:Ev w) (hZ:TreeZ s at' beside x L E C) :
  Calls Tryz.prog 8 #[.string s,.int .i64 at',.bool beside] w fun e w'=>∃ (cs:List Value) (lv:Value),e=.returned (.tuple #[.agg cs.toArray,lv,.int .i64 E,.int .i64 C])∧Cells12 cs∧ComsR (Nw w.heap.size w'.heap.size) w' lv L∧(∀ t,x=some t→IsN (Nw w.heap.size w'.heap.size) w' t cs)∧Below w.heap.size w w':=by
 obtain ⟨k,o,hN,hm⟩:=tree_way hZ
 obtain ⟨p,hp⟩:∃ p,p=(min at' (s.size:Int)).toNat:=⟨_,rfl⟩
 rw[←hp] at hN
 have hpl:p≤s.size:=by omega
 have HP:=Lib.hid hp
 clear hp
 have hmf:∀ (fn:Fn) (first cap:Array Value) (w:World),(Instr.makeFunc fn first cap).run Tryz.prog w=.ok (.func fn first cap) w:=fun _ _ _ _=>rfl
 go_enter_defers Tryz.func8,Tryz.ntmps8
 obtain ⟨a,ha⟩:∃ a,a=w.heap.size:=⟨_,rfl⟩
 obtain ⟨A1,hA1⟩:∃ A1,A1=w.alloc (.cells #[.int .i64 0,.int .i64 0,.int .i64 0,.int .i64 0,.string ⟨#[]⟩,.string ⟨#[]⟩,.string ⟨#[]⟩,.slice none 0 0,.slice none 0 0,.slice none 0 0,.bool false,.string ⟨#[]⟩] 27):=⟨_,rfl⟩
 obtain ⟨A2,hA2⟩:∃ A2,A2=A1.alloc (.cells #[.slice none 0 0] 25):=⟨_,rfl⟩
 obtain ⟨A3,hA3⟩:∃ A3,A3=A2.alloc (.cells #[.int .i64 0] 3):=⟨_,rfl⟩
 obtain ⟨A4,hA4⟩:∃ A4,A4=A3.alloc (.cells #[.int .i64 0] 28):=⟨_,rfl⟩
 obtain ⟨A5,hA5⟩:∃ A5,A5=A4.alloc (.cells #[.string s,.int .i64 (p:Int),.slice none 0 0] 53):=⟨_,rfl⟩
 obtain ⟨W6,hW6⟩:∃ W6,W6=A5.alloc (.cells #[.int .i64 0,.int .i64 (-1),.int .i64 0] 55):=⟨_,rfl⟩
 have z1:A1.heap.size=a+1:=by rw[hA1,ha];simp
 have z2:A2.heap.size=a+1+1:=by rw[hA2];simp[z1]
 have z3:A3.heap.size=a+1+1+1:=by rw[hA3];simp[z2]
 have z4:A4.heap.size=a+1+1+1+1:=by rw[hA4];simp[z3]
 have z5:A5.heap.size=a+1+1+1+1+1:=by rw[hA5];simp[z4]
 have z6:W6.heap.size=a+1+1+1+1+1+1:=by rw[hW6];simp[z5]
 have d6:∀ j,j<A5.heap.size→W6.heap[j]?=A5.heap[j]?:=fun j hj=>by rw[hW6];exact heap_alloc_old _ _ hj
 have d5:∀ j,j<A4.heap.size→W6.heap[j]?=A4.heap[j]?:=fun j hj=>(d6 j (by omega)).trans (by rw[hA5];exact heap_alloc_old _ _ hj)
 have d4:∀ j,j<A3.heap.size→W6.heap[j]?=A3.heap[j]?:=fun j hj=>(d5 j (by omega)).trans (by rw[hA4];exact heap_alloc_old _ _ hj)
 have d3:∀ j,j<A2.heap.size→W6.heap[j]?=A2.heap[j]?:=fun j hj=>(d4 j (by omega)).trans (by rw[hA3];exact heap_alloc_old _ _ hj)
 have d2:∀ j,j<A1.heap.size→W6.heap[j]?=A1.heap[j]?:=fun j hj=>(d3 j (by omega)).trans (by rw[hA2];exact heap_alloc_old _ _ hj)
 have rA:W6.heap[a]?=some (.cells #[.int .i64 0,.int .i64 0,.int .i64 0,.int .i64 0,.string ⟨#[]⟩,.string ⟨#[]⟩,.string ⟨#[]⟩,.slice none 0 0,.slice none 0 0,.slice none 0 0,.bool false,.string ⟨#[]⟩] 27 (0,0)):=(d2 a (by omega)).trans (by rw[hA1,ha];exact heap_alloc_new w _)
 have rB:W6.heap[a+1]?=some (.cells #[.slice none 0 0] 25 (0,0)):=(d3 (a+1) (by omega)).trans (by rw[hA2,←z1];exact heap_alloc_new A1 _)
 have rC:W6.heap[a+1+1]?=some (.cells #[.int .i64 0] 3 (0,0)):=(d4 (a+1+1) (by omega)).trans (by rw[hA3,←z2];exact heap_alloc_new A2 _)
 have rD:W6.heap[a+1+1+1]?=some (.cells #[.int .i64 0] 28 (0,0)):=(d5 (a+1+1+1) (by omega)).trans (by rw[hA4,←z3];exact heap_alloc_new A3 _)
 have rR:TrAt (a+1+1+1+1) s p (.slice none 0 0) W6:=(d6 (a+1+1+1+1) (by omega)).trans (by rw[hA5,←z4];exact heap_alloc_new A4 _)
 have rP:W6.heap[a+1+1+1+1+1]?=some (.cells #[.int .i64 0,.int .i64 (-1),.int .i64 0] 55 (0,0)):=by rw[hW6,←z5];exact heap_alloc_new A5 _
 have b6:Below a w W6:=by
  rw[hW6,hA5,hA4,hA3,hA2,hA1,ha]
  exact ((((((Below.refl _ _).alloc (Nat.le_refl _) _).alloc (by simp) _).alloc (by simp;omega) _).alloc (by simp;omega) _).alloc (by simp;omega) _).alloc (by simp;omega) _
 have HE:Hid (A5.alloc (.cells #[.int .i64 0,.int .i64 (-1),.int .i64 0] 55)=W6):=hW6.symm
 clear z1 z2 z3 z4 z5 d6 d5 d4 d3 d2
 rw[hA5,hA4,hA3,hA2,hA1] at HE
 clear hA1 hA2 hA3 hA4 hA5 hW6
 have HRA:=Lib.hid rA
 have HRB:=Lib.hid rB
 have HRC:=Lib.hid rC
 have HRD:=Lib.hid rD
 have HRR:=Lib.hid rR
 have qP:=fun j=>cell_of_row W6 _ j _ _ _ rP
 have fP:=fun j=>frozen_of_row W6 _ j _ _ rP
 have HRP:=Lib.hid rP
 have HA:=Lib.hid ha
 have HB6:=Lib.hid b6
 clear rA rB rC rD rR rP b6 ha
 go_upto_region 4 with fail
 have hmm:min (max at' 0) (s.size:Int)=(p:Int):=by have:=HP.out;omega
 have hmm2:max (min at' (s.size:Int)) 0=(p:Int):=by have:=HP.out;omega
 first|rw[hmm] | rw[hmm2]
 rw[←HA.out]
 rw[HE.out]
 clear hmm hmm2 HP
 have hw6:W6.heap.size=a+1+1+1+1+1+1:=z6
 have hga:w.heap.size≤a+1+1+1+1:=by have:=HA.out;omega
 have hB6:Below w.heap.size w W6:=by rw[←HA.out];exact HB6.out
 have CN0:=trNode_is K w hEv (a+1+1+1+1) hga s hs hPs (blkP s k) (blkP_is K w hEv (a+1+1+1+1) hga s hs hPs k) (blkP_lead s k)
 have HMM:=Lib.hid hm
 clear hm z6
 cases beside with
 | false=>
  rw[if_neg (by decide)] at hN
  have CN:Calls Tryz.prog 15 #[.pointer (some ⟨a+1+1+1+1,0,none⟩),.agg #[.int .i64 0,.int .i64 (-1),.int .i64 0]] W6 fun e w'=>TrPost (a+1+1+1+1) W6 o (NodG (a+1+1+1+1) s W6) e w':=CN0 0 (-1) 0 p (.slice none 0 0) o W6 hB6 ⟨_,_,_,rfl⟩ HRR.out hpl hN
  clear CN0 hN
  obtain ⟨W7,hW7⟩:∃ W7,W7=W6:=⟨_,rfl⟩
  rw[←hW7] at CN HRA HRB HRC HRD HRR hB6 hw6 qP fP ⊢
  clear hW7 HE HRP
  go_wp2_with fail
  refine CN.mono ?_
  rintro e w8 hpost
  clear CN qP fP
  have HB7:=Lib.hid hB6
  clear hB6
  cases o with
  | bad q c=>
   obtain ⟨rfl,k8⟩:=hpost
   obtain ⟨rfl,rfl,rfl,rfl⟩:=HMM.out
   have b8:Below w.heap.size W7 w8:=k8.below (fun j hj=>⟨by omega,by omega⟩)
   have hA8:=(k8.block a ⟨by omega,by omega⟩).trans HRA.out
   have hB8:=(k8.block (a+1) ⟨by omega,by omega⟩).trans HRB.out
   have hC8:=(k8.block (a+1+1) ⟨by omega,by omega⟩).trans HRC.out
   have hD8:=(k8.block (a+1+1+1) ⟨by omega,by omega⟩).trans HRD.out
   have hb8:=HB7.out.trans b8
   clear b8 k8
   refine leaves_cons (f:=14) (args:=#[.pointer (some ⟨a,0,none⟩),.pointer (some ⟨a+1,0,none⟩),.pointer (some ⟨a+1+1,0,none⟩),.pointer (some ⟨a+1+1+1,0,none⟩)]) (by simp) (by simp[go_sem]) ?_
   refine (trCatch_panic a _ _ _ _ _ _ _ _ _ _ _ _ _ _ _ _ _ _ hA8 hB8 hC8 hD8).mono ?_
   rintro e u' w12 ⟨rfl,rfl,b12,t0,t1,t2,t3⟩
   have q0:=fun j=>cell_of_row w12 _ j _ _ _ t0
   have q1:=fun j=>cell_of_row w12 _ j _ _ _ t1
   have q2:=fun j=>cell_of_row w12 _ j _ _ _ t2
   have q3:=fun j=>cell_of_row w12 _ j _ _ _ t3
   refine ⟨.tuple #[.agg #[.int .i64 0,.int .i64 0,.int .i64 0,.int .i64 0,.string ⟨#[]⟩,.string ⟨#[]⟩,.string ⟨#[]⟩,.slice none 0 0,.slice none 0 0,.slice none 0 0,.bool false,.string ⟨#[]⟩],.slice none 0 0,.int .i64 _,.int .i64 _],(by simp[results,Tryz.results8,go_sem,q0,q1,q2,q3];exact ⟨rfl,rfl⟩),?_⟩
   exact ⟨_,.slice none 0 0,rfl,⟨_,_,_,_,_,_,_,_,_,_,_,_,_,_,_,_,_,_,rfl⟩,ComsR.nil _ _,fun t ht=>(by cases ht),hb8.trans (b12.mono (Nat.le_of_eq HA.out.symm))⟩
  | ok r=>
   obtain ⟨cs,v,R,rfl,hNd,M⟩:=hpost
   obtain ⟨y0,y1,y2,y3,y4,y5,y6,ya,yb,yc,yd,ye,yf,yg,yh,yi,y7,y8,rfl⟩:=hNd.cells12
   have k8:=M.keep
   have b8:Below w.heap.size W7 w8:=k8.below (fun j hj=>⟨by omega,by omega⟩)
   have hA8:=(k8.block a ⟨by omega,by omega⟩).trans HRA.out
   have hB8:=(k8.block (a+1) ⟨by omega,by omega⟩).trans HRB.out
   have hC8:=(k8.block (a+1+1) ⟨by omega,by omega⟩).trans HRC.out
   have hD8:=(k8.block (a+1+1+1) ⟨by omega,by omega⟩).trans HRD.out
   have hb8:=HB7.out.trans b8
   have z8:W7.heap.size≤w8.heap.size:=k8.size
   have qA:=fun j=>cell_of_row w8 _ j _ _ _ hA8
   have fA:=fun j=>frozen_of_row w8 _ j _ _ hA8
   have HA8:=Lib.hid hA8
   have HB8:=Lib.hid hB8
   have HC8:=Lib.hid hC8
   have HD8:=Lib.hid hD8
   have HM:=Lib.hid M
   have HN:=Lib.hid hNd
   have Hb8:=Lib.hid hb8
   clear b8 k8 hA8 hB8 hC8 hD8 hb8 M hNd
   go_upto_region 7 with fail
   obtain ⟨w9,hw9⟩:∃ w9,w9=((((((((((((w8.setCell ⟨a,0,none⟩ (.int .i64 y0)).setCell ⟨a,1,none⟩ (.int .i64 y1)).setCell ⟨a,2,none⟩ (.int .i64 y2)).setCell ⟨a,3,none⟩ (.int .i64 y3)).setCell ⟨a,4,none⟩ (.string y4)).setCell ⟨a,5,none⟩ (.string y5)).setCell ⟨a,6,none⟩ (.string y6)).setCell ⟨a,7,none⟩ (.slice ya yb yc)).setCell ⟨a,8,none⟩ (.slice yd ye yf)).setCell ⟨a,9,none⟩ (.slice yg yh yi)).setCell ⟨a,10,none⟩ (.bool y7)).setCell ⟨a,11,none⟩ (.string y8)):=⟨_,rfl⟩
   have r9:w9.heap[a]?=some (.cells #[.int .i64 y0,.int .i64 y1,.int .i64 y2,.int .i64 y3,.string y4,.string y5,.string y6,.slice ya yb yc,.slice yd ye yf,.slice yg yh yi,.bool y7,.string y8] 27 (0,0)):=by rw[hw9];exact row12_set w8 (hg:=HA8.out) ..
   have b9:Below a w8 w9:=by rw[hw9];exact row12_below w8 _ _ (Nat.le_refl _) _ _ _ _ _ _ _ _ _ _ _ _
   have z9:w9.heap.size=w8.heap.size:=by rw[hw9,row12_size]
   have s9:∀ k,¬ k=a→w9.heap[k]?=w8.heap[k]?:=fun k hk=>by rw[hw9];exact row12_other w8 _ k hk ..
   rw[←hw9]
   clear hw9 qA fA
   have hb9:=Hb8.out.trans (b9.mono (Nat.le_of_eq HA.out.symm))
   have hB9:=(s9 (a+1) (by omega)).trans HB8.out
   have hC9:=(s9 (a+1+1) (by omega)).trans HC8.out
   have hD9:=(s9 (a+1+1+1) (by omega)).trans HD8.out
   have T9:TrAt (a+1+1+1+1) s r.2.2 v w9:=(s9 _ (by omega)).trans HM.out.cells
   have z9a:w8.heap.size≤w9.heap.size:=Nat.le_of_eq z9.symm
   obtain ⟨ov,hov⟩:∃ ov,overB s r.2.2=ov:=⟨_,rfl⟩
   have CO:=trOver_is (a+1+1+1+1) s r.2.2 v w9 ov T9 hs HM.out.le hov
   go_wp2_with fail
   refine CO.mono ?_
   rintro e w10 ⟨rfl,j10,e10⟩
   have b10:Below w9.heap.size w9 w10:=by rw[e10];exact Go.below_drewN (Below.refl _ _) _
   clear e10 CO z9
   have T10:=T9.below b10 T9.lt
   have hA8:=(b10.block a (by omega)).trans r9
   have hB8:=(b10.block (a+1) (by omega)).trans hB9
   have hC8:=(b10.block (a+1+1) (by omega)).trans hC9
   have hD8:=(b10.block (a+1+1+1) (by omega)).trans hD9
   have hb8:=hb9.trans (b10.mono hb9.size)
   have hm:=HMM.out
   change (if overB s r.2.2=true then _ else _) at hm
   rw[hov] at hm
   clear r9 hB9 hC9 hD9 T9 hb9 hov
   cases ov with
   | false=>
    rw[if_neg (by decide)] at hm
    obtain ⟨rfl,rfl,rfl,rfl⟩:=hm
    have c10:=T10.cell
    go_wp2_with fail
    refine (trRaise_is r.2.2 5 _).mono ?_
    rintro e w11 ⟨rfl,rfl⟩
    clear c10 T10
    refine leaves_cons (f:=14) (args:=#[.pointer (some ⟨a,0,none⟩),.pointer (some ⟨a+1,0,none⟩),.pointer (some ⟨a+1+1,0,none⟩),.pointer (some ⟨a+1+1+1,0,none⟩)]) (by simp) (by simp[go_sem]) ?_
    refine (trCatch_panic a _ _ _ _ _ _ _ _ _ _ _ _ _ _ _ _ _ _ hA8 hB8 hC8 hD8).mono ?_
    rintro e u' w12 ⟨rfl,rfl,b12,t0,t1,t2,t3⟩
    have q0:=fun j=>cell_of_row w12 _ j _ _ _ t0
    have q1:=fun j=>cell_of_row w12 _ j _ _ _ t1
    have q2:=fun j=>cell_of_row w12 _ j _ _ _ t2
    have q3:=fun j=>cell_of_row w12 _ j _ _ _ t3
    refine ⟨.tuple #[.agg #[.int .i64 0,.int .i64 0,.int .i64 0,.int .i64 0,.string ⟨#[]⟩,.string ⟨#[]⟩,.string ⟨#[]⟩,.slice none 0 0,.slice none 0 0,.slice none 0 0,.bool false,.string ⟨#[]⟩],.slice none 0 0,.int .i64 _,.int .i64 _],(by simp[results,Tryz.results8,go_sem,q0,q1,q2,q3];exact ⟨rfl,rfl⟩),?_⟩
    exact ⟨_,.slice none 0 0,rfl,⟨_,_,_,_,_,_,_,_,_,_,_,_,_,_,_,_,_,_,rfl⟩,ComsR.nil _ _,fun t ht=>(by cases ht),hb8.trans (b12.mono (Nat.le_of_eq HA.out.symm))⟩
   | true=>
    rw[if_pos rfl] at hm
    obtain ⟨rfl,rfl,rfl,rfl⟩:=hm
    have c10:=T10.cell
    have f10:=T10.free
    have q0:=fun j=>cell_of_row w10 _ j _ _ _ hA8
    have f0:=fun j=>frozen_of_row w10 _ j _ _ hA8
    have q1:=fun j=>cell_of_row w10 _ j _ _ _ hB8
    have f1:=fun j=>frozen_of_row w10 _ j _ _ hB8
    have q2:=fun j=>cell_of_row w10 _ j _ _ _ hC8
    have f2:=fun j=>frozen_of_row w10 _ j _ _ hC8
    have q3:=fun j=>cell_of_row w10 _ j _ _ _ hD8
    have f3:=fun j=>frozen_of_row w10 _ j _ _ hD8
    obtain ⟨va,vc,rfl⟩:=HM.out.has.form
    have CT:=fun W hW=>trTake_is (a+1+1+1+1) s r.2.2 (.slice va r.2.1.length vc) W hW
    go_wp2_with fail
    have e0:w10.setCell ⟨a,0,none⟩ (.int .i64 y0)=w10:=setCell_self hA8 rfl
    have e1:w10.setCell ⟨a,1,none⟩ (.int .i64 y1)=w10:=setCell_self hA8 rfl
    have e2:w10.setCell ⟨a,2,none⟩ (.int .i64 y2)=w10:=setCell_self hA8 rfl
    have e3:w10.setCell ⟨a,3,none⟩ (.int .i64 y3)=w10:=setCell_self hA8 rfl
    have e4:w10.setCell ⟨a,4,none⟩ (.string y4)=w10:=setCell_self hA8 rfl
    have e5:w10.setCell ⟨a,5,none⟩ (.string y5)=w10:=setCell_self hA8 rfl
    have e6:w10.setCell ⟨a,6,none⟩ (.string y6)=w10:=setCell_self hA8 rfl
    have e7:w10.setCell ⟨a,7,none⟩ (.slice ya yb yc)=w10:=setCell_self hA8 rfl
    have e8:w10.setCell ⟨a,8,none⟩ (.slice yd ye yf)=w10:=setCell_self hA8 rfl
    have e9:w10.setCell ⟨a,9,none⟩ (.slice yg yh yi)=w10:=setCell_self hA8 rfl
    have e10:w10.setCell ⟨a,10,none⟩ (.bool y7)=w10:=setCell_self hA8 rfl
    have e11:w10.setCell ⟨a,11,none⟩ (.string y8)=w10:=setCell_self hA8 rfl
    go_cut [6] from 30 to 33 (fun v6 wx=>v6=.pointer (some ⟨a,0,none⟩)∧wx=(((((((((((((((((w10.setCell ⟨a+1+1+1+1,2,none⟩ (.slice none 0 0)).setCell ⟨a,0,none⟩ (.int .i64 y0)).setCell ⟨a,1,none⟩ (.int .i64 y1)).setCell ⟨a,2,none⟩ (.int .i64 y2)).setCell ⟨a,3,none⟩ (.int .i64 y3)).setCell ⟨a,4,none⟩ (.string y4)).setCell ⟨a,5,none⟩ (.string y5)).setCell ⟨a,6,none⟩ (.string y6)).setCell ⟨a,7,none⟩ (.slice ya yb yc)).setCell ⟨a,8,none⟩ (.slice yd ye yf)).setCell ⟨a,9,none⟩ (.slice yg yh yi)).setCell ⟨a,10,none⟩ (.bool y7)).setCell ⟨a,11,none⟩ (.string y8))).setCell ⟨a+1,0,none⟩ (.slice va r.2.1.length vc)).setCell ⟨a+1+1,0,none⟩ (.int .i64 (r.2.2:Int))).setCell ⟨a+1+1+1,0,none⟩ (.int .i64 0)).drew)
    case first=>
     refine wp_onlyN ?_
     go_region_with (go_at_call 18;refine (CT _ (by exact T10)).mono ?_;rintro e w11 ⟨rfl,rfl⟩)
     all_goals
      refine onlyN_then ?_
      go_wp2_with fail
      go_meet
      exact ⟨rfl,rfl⟩
    case rest=>
     obtain ⟨rfl,rfl⟩:=hcut
     obtain ⟨w11,hw11⟩:∃ w11,w11=w10.setCell ⟨a+1+1+1+1,2,none⟩ (.slice none 0 0):=⟨_,rfl⟩
     have hA11:w11.heap[a]?=some (.cells #[.int .i64 y0,.int .i64 y1,.int .i64 y2,.int .i64 y3,.string y4,.string y5,.string y6,.slice ya yb yc,.slice yd ye yf,.slice yg yh yi,.bool y7,.string y8] 27 (0,0)):=by rw[hw11];exact (heap_setCell_other _ _ _ _ (by intro h;first|omega|(dsimp only at h;omega))).trans hA8
     have hB11:w11.heap[a+1]?=some (.cells #[.slice none 0 0] 25 (0,0)):=by rw[hw11];exact (heap_setCell_other _ _ _ _ (by intro h;first|omega|(dsimp only at h;omega))).trans hB8
     have hC11:w11.heap[a+1+1]?=some (.cells #[.int .i64 0] 3 (0,0)):=by rw[hw11];exact (heap_setCell_other _ _ _ _ (by intro h;first|omega|(dsimp only at h;omega))).trans hC8
     have hD11:w11.heap[a+1+1+1]?=some (.cells #[.int .i64 0] 28 (0,0)):=by rw[hw11];exact (heap_setCell_other _ _ _ _ (by intro h;first|omega|(dsimp only at h;omega))).trans hD8
     have s11:∀ j,¬ j=a+1+1+1+1→w11.heap[j]?=w10.heap[j]?:=fun j hj=>by rw[hw11];exact heap_setCell_other _ _ _ _ hj
     have b11:Below a w10 w11:=by rw[hw11];exact (Below.refl _ _).setCell (p:=⟨a+1+1+1+1,2,none⟩) (by show a≤a+1+1+1+1;omega) _
     have z11:w11.heap.size=w10.heap.size:=by rw[hw11];simp[World.setCell]
     rw[←hw11]
     obtain ⟨w12,hw12⟩:∃ w12,w12=((((((((((((w11.setCell ⟨a,0,none⟩ (.int .i64 y0)).setCell ⟨a,1,none⟩ (.int .i64 y1)).setCell ⟨a,2,none⟩ (.int .i64 y2)).setCell ⟨a,3,none⟩ (.int .i64 y3)).setCell ⟨a,4,none⟩ (.string y4)).setCell ⟨a,5,none⟩ (.string y5)).setCell ⟨a,6,none⟩ (.string y6)).setCell ⟨a,7,none⟩ (.slice ya yb yc)).setCell ⟨a,8,none⟩ (.slice yd ye yf)).setCell ⟨a,9,none⟩ (.slice yg yh yi)).setCell ⟨a,10,none⟩ (.bool y7)).setCell ⟨a,11,none⟩ (.string y8)):=⟨_,rfl⟩
     have r12:w12.heap[a]?=some (.cells #[.int .i64 y0,.int .i64 y1,.int .i64 y2,.int .i64 y3,.string y4,.string y5,.string y6,.slice ya yb yc,.slice yd ye yf,.slice yg yh yi,.bool y7,.string y8] 27 (0,0)):=by rw[hw12];exact row12_set w11 (hg:=hA11) ..
     have b12:Below a w11 w12:=by rw[hw12];exact row12_below w11 _ _ (Nat.le_refl _) _ _ _ _ _ _ _ _ _ _ _ _
     have z12:w12.heap.size=w11.heap.size:=by rw[hw12,row12_size]
     have s12:∀ k,¬ k=a→w12.heap[k]?=w11.heap[k]?:=fun k hk=>by rw[hw12];exact row12_other w11 _ k hk ..
     rw[←hw12]
     obtain ⟨w13,hw13⟩:∃ w13,w13=(((w12.setCell ⟨a+1,0,none⟩ (.slice va r.2.1.length vc)).setCell ⟨a+1+1,0,none⟩ (.int .i64 (r.2.2:Int))).setCell ⟨a+1+1+1,0,none⟩ (.int .i64 0)):=⟨_,rfl⟩
     have s13:∀ j,(∀ i,i<4→¬ j=a+i)→¬ j=a+1+1+1+1→w13.heap[j]?=w10.heap[j]?:=fun j hj hg=>by
      have h0:=hj 0 (by omega);have h1:=hj 1 (by omega);have h2:=hj 2 (by omega);have h3:=hj 3 (by omega)
      rw[hw13]
      exact (heap_setCell_other _ _ _ _ h3).trans ((heap_setCell_other _ _ _ _ h2).trans ((heap_setCell_other _ _ _ _ h1).trans ((s12 j h0).trans (s11 j hg))))
     have b13:Below a w12 w13:=by rw[hw13];exact (((Below.refl _ _).setCell (p:=⟨a+1,0,none⟩) (by show a≤a+1;omega) _).setCell (p:=⟨a+1+1,0,none⟩) (by show a≤a+1+1;omega) _).setCell (p:=⟨a+1+1+1,0,none⟩) (by show a≤a+1+1+1;omega) _
     have z13:w13.heap.size=w12.heap.size:=by rw[hw13];simp[World.setCell]
     have t0:w13.heap[a]?=some (.cells #[.int .i64 y0,.int .i64 y1,.int .i64 y2,.int .i64 y3,.string y4,.string y5,.string y6,.slice ya yb yc,.slice yd ye yf,.slice yg yh yi,.bool y7,.string y8] 27 (0,0)):=by rw[hw13];exact (heap_setCell_other _ _ _ _ (by intro h;first|omega|(dsimp only at h;omega))).trans ((heap_setCell_other _ _ _ _ (by intro h;first|omega|(dsimp only at h;omega))).trans ((heap_setCell_other _ _ _ _ (by intro h;first|omega|(dsimp only at h;omega))).trans r12))
     have t1:w13.heap[a+1]?=some (.cells #[.slice va r.2.1.length vc] 25 (0,0)):=by rw[hw13];exact (heap_setCell_other _ _ _ _ (by intro h;first|omega|(dsimp only at h;omega))).trans ((heap_setCell_other _ _ _ _ (by intro h;first|omega|(dsimp only at h;omega))).trans (heap_setCell_same _ _ 0 _ _ _ ((s12 (a+1) (by intro h;first|omega|(dsimp only at h;omega))).trans hB11)))
     have t2:w13.heap[a+1+1]?=some (.cells #[.int .i64 (r.2.2:Int)] 3 (0,0)):=by rw[hw13];exact (heap_setCell_other _ _ _ _ (by intro h;first|omega|(dsimp only at h;omega))).trans (heap_setCell_same _ _ 0 _ _ _ ((heap_setCell_other _ _ _ _ (by intro h;first|omega|(dsimp only at h;omega))).trans ((s12 (a+1+1) (by intro h;first|omega|(dsimp only at h;omega))).trans hC11)))
     have t3:w13.heap[a+1+1+1]?=some (.cells #[.int .i64 0] 28 (0,0)):=by rw[hw13];exact heap_setCell_same _ _ 0 _ _ _ ((heap_setCell_other _ _ _ _ (by intro h;first|omega|(dsimp only at h;omega))).trans ((heap_setCell_other _ _ _ _ (by intro h;first|omega|(dsimp only at h;omega))).trans ((s12 (a+1+1+1) (by intro h;first|omega|(dsimp only at h;omega))).trans hD11)))
     rw[←hw13]
     have b14:Below a w10 w13:=(b11.trans b12).trans b13
     have z10:=b10.size
     have FR:∀ j,W7.heap.size≤j→j<w8.heap.size→w13.heap[j]?=w8.heap[j]?:=fun j h1 h2=>(s13 j (fun i hi=>by omega) (by omega)).trans ((b10.block j (by omega)).trans (s9 j (by omega)))
     have z14:w13.heap.size=w10.heap.size:=by omega
     clear hw11 hw12 hw13 e0 e1 e2 e3 e4 e5 e6 e7 e8 e9 e10 e11 hA11 hB11 hC11 hD11 s11 s12 b11 b12 b13 z11 z12 z13 r12 q0 f0 q1 f1 q2 f2 q3 f3 c10 f10 CT
     go_wp2
     refine leaves_cons (f:=14) (args:=#[.pointer (some ⟨a,0,none⟩),.pointer (some ⟨a+1,0,none⟩),.pointer (some ⟨a+1+1,0,none⟩),.pointer (some ⟨a+1+1+1,0,none⟩)]) (by simp) (by simp[go_sem]) ?_
     refine (trCatch_idle _ _ _ _ _).mono ?_
     rintro e u' w15 ⟨rfl,rfl,rfl⟩
     have q0:∀ j,w13.drew.cell? ⟨a,j,none⟩=(#[.int .i64 y0,.int .i64 y1,.int .i64 y2,.int .i64 y3,.string y4,.string y5,.string y6,.slice ya yb yc,.slice yd ye yf,.slice yg yh yi,.bool y7,.string y8]:Array Value)[j]?:=fun j=>cell_of_row w13 _ j _ _ _ t0
     have q1:∀ j,w13.drew.cell? ⟨a+1,j,none⟩=(#[.slice va r.2.1.length vc]:Array Value)[j]?:=fun j=>cell_of_row w13 _ j _ _ _ t1
     have q2:∀ j,w13.drew.cell? ⟨a+1+1,j,none⟩=(#[.int .i64 (r.2.2:Int)]:Array Value)[j]?:=fun j=>cell_of_row w13 _ j _ _ _ t2
     have q3:∀ j,w13.drew.cell? ⟨a+1+1+1,j,none⟩=(#[.int .i64 0]:Array Value)[j]?:=fun j=>cell_of_row w13 _ j _ _ _ t3
     refine ⟨.tuple #[.agg #[.int .i64 y0,.int .i64 y1,.int .i64 y2,.int .i64 y3,.string y4,.string y5,.string y6,.slice ya yb yc,.slice yd ye yf,.slice yg yh yi,.bool y7,.string y8],.slice va r.2.1.length vc,.int .i64 (r.2.2:Int),.int .i64 0],(by simp[results,Tryz.results8,go_sem,q0,q1,q2,q3]),?_⟩
     refine ⟨_,.slice va r.2.1.length vc,rfl,⟨_,_,_,_,_,_,_,_,_,_,_,_,_,_,_,_,_,_,rfl⟩,?_,?_,hb8.trans ((b14.mono (Nat.le_of_eq HA.out.symm)).drew)⟩
     ·exact HM.out.has.toComs.frame fun j hj=>by
       have h1:=(HM.out.own j hj).1
       have h2:=HM.out.has.own j hj
       exact ⟨⟨by have:=HA.out;omega,by show j<w13.heap.size;omega⟩,FR j h1 h2⟩
     ·intro t ht
      injection ht with ht
      subst ht
      exact IsN.frame (w':=w13.drew) (fun j hj=>by
       have h1:=HM.out.new j hj
       exact ⟨⟨by have:=HA.out;omega,by show j<w13.heap.size;omega⟩,FR j h1.1 h1.2⟩) _ _ HN.out
 | true=>
  rw[if_pos rfl] at hN
  go_upto_region 6 with fail
  obtain ⟨W7,hW7⟩:∃ W7,W7=W6.setCell ⟨a+1+1+1+1+1,0,none⟩ (.int .i64 1):=⟨_,rfl⟩
  have s7:∀ j,¬ j=a+1+1+1+1+1→W7.heap[j]?=W6.heap[j]?:=fun j hj=>by rw[hW7];exact heap_setCell_other _ _ _ _ hj
  have rP7:W7.heap[a+1+1+1+1+1]?=some (.cells #[.int .i64 1,.int .i64 (-1),.int .i64 0] 55 (0,0)):=by rw[hW7];exact heap_setCell_same _ _ 0 _ _ _ HRP.out
  have hB7:Below w.heap.size w W7:=by rw[hW7];exact hB6.setCell (p:=⟨a+1+1+1+1+1,0,none⟩) (by show w.heap.size≤a+1+1+1+1+1;omega) _
  have hw7:W7.heap.size=a+1+1+1+1+1+1:=by rw[hW7];simp[World.setCell,hw6]
  rw[←hW7]
  clear hW7
  have HRA:=Lib.hid ((s7 a (by omega)).trans HRA.out)
  have HRB:=Lib.hid ((s7 (a+1) (by omega)).trans HRB.out)
  have HRC:=Lib.hid ((s7 (a+1+1) (by omega)).trans HRC.out)
  have HRD:=Lib.hid ((s7 (a+1+1+1) (by omega)).trans HRD.out)
  have HRR:Hid (TrAt (a+1+1+1+1) s p (.slice none 0 0) W7):=(s7 (a+1+1+1+1) (by omega)).trans HRR.out
  have qP:=fun j=>cell_of_row W7 _ j _ _ _ rP7
  have fP:=fun j=>frozen_of_row W7 _ j _ _ rP7
  have CN:Calls Tryz.prog 15 #[.pointer (some ⟨a+1+1+1+1,0,none⟩),.agg #[.int .i64 1,.int .i64 (-1),.int .i64 0]] W7 fun e w'=>TrPost (a+1+1+1+1) W7 o (NodG (a+1+1+1+1) s W7) e w':=CN0 1 (-1) 0 p (.slice none 0 0) o W7 hB7 ⟨_,_,_,rfl⟩ HRR.out hpl hN
  clear CN0 hN rP7 s7 hB6 hw6 HE HRP
  have hB6:=hB7
  have hw6:=hw7
  clear hB7 hw7
  go_wp2_with fail
  refine CN.mono ?_
  rintro e w8 hpost
  clear CN qP fP
  have HB7:=Lib.hid hB6
  clear hB6
  cases o with
  | bad q c=>
   obtain ⟨rfl,k8⟩:=hpost
   obtain ⟨rfl,rfl,rfl,rfl⟩:=HMM.out
   have b8:Below w.heap.size W7 w8:=k8.below (fun j hj=>⟨by omega,by omega⟩)
   have hA8:=(k8.block a ⟨by omega,by omega⟩).trans HRA.out
   have hB8:=(k8.block (a+1) ⟨by omega,by omega⟩).trans HRB.out
   have hC8:=(k8.block (a+1+1) ⟨by omega,by omega⟩).trans HRC.out
   have hD8:=(k8.block (a+1+1+1) ⟨by omega,by omega⟩).trans HRD.out
   have hb8:=HB7.out.trans b8
   clear b8 k8
   refine leaves_cons (f:=14) (args:=#[.pointer (some ⟨a,0,none⟩),.pointer (some ⟨a+1,0,none⟩),.pointer (some ⟨a+1+1,0,none⟩),.pointer (some ⟨a+1+1+1,0,none⟩)]) (by simp) (by simp[go_sem]) ?_
   refine (trCatch_panic a _ _ _ _ _ _ _ _ _ _ _ _ _ _ _ _ _ _ hA8 hB8 hC8 hD8).mono ?_
   rintro e u' w12 ⟨rfl,rfl,b12,t0,t1,t2,t3⟩
   have q0:=fun j=>cell_of_row w12 _ j _ _ _ t0
   have q1:=fun j=>cell_of_row w12 _ j _ _ _ t1
   have q2:=fun j=>cell_of_row w12 _ j _ _ _ t2
   have q3:=fun j=>cell_of_row w12 _ j _ _ _ t3
   refine ⟨.tuple #[.agg #[.int .i64 0,.int .i64 0,.int .i64 0,.int .i64 0,.string ⟨#[]⟩,.string ⟨#[]⟩,.string ⟨#[]⟩,.slice none 0 0,.slice none 0 0,.slice none 0 0,.bool false,.string ⟨#[]⟩],.slice none 0 0,.int .i64 _,.int .i64 _],(by simp[results,Tryz.results8,go_sem,q0,q1,q2,q3];exact ⟨rfl,rfl⟩),?_⟩
   exact ⟨_,.slice none 0 0,rfl,⟨_,_,_,_,_,_,_,_,_,_,_,_,_,_,_,_,_,_,rfl⟩,ComsR.nil _ _,fun t ht=>(by cases ht),hb8.trans (b12.mono (Nat.le_of_eq HA.out.symm))⟩
  | ok r=>
   obtain ⟨cs,v,R,rfl,hNd,M⟩:=hpost
   obtain ⟨y0,y1,y2,y3,y4,y5,y6,ya,yb,yc,yd,ye,yf,yg,yh,yi,y7,y8,rfl⟩:=hNd.cells12
   have k8:=M.keep
   have b8:Below w.heap.size W7 w8:=k8.below (fun j hj=>⟨by omega,by omega⟩)
   have hA8:=(k8.block a ⟨by omega,by omega⟩).trans HRA.out
   have hB8:=(k8.block (a+1) ⟨by omega,by omega⟩).trans HRB.out
   have hC8:=(k8.block (a+1+1) ⟨by omega,by omega⟩).trans HRC.out
   have hD8:=(k8.block (a+1+1+1) ⟨by omega,by omega⟩).trans HRD.out
   have hb8:=HB7.out.trans b8
   have z8:W7.heap.size≤w8.heap.size:=k8.size
   have qA:=fun j=>cell_of_row w8 _ j _ _ _ hA8
   have fA:=fun j=>frozen_of_row w8 _ j _ _ hA8
   have HA8:=Lib.hid hA8
   have HB8:=Lib.hid hB8
   have HC8:=Lib.hid hC8
   have HD8:=Lib.hid hD8
   have HM:=Lib.hid M
   have HN:=Lib.hid hNd
   have Hb8:=Lib.hid hb8
   clear b8 k8 hA8 hB8 hC8 hD8 hb8 M hNd
   go_upto_region 7 with fail
   obtain ⟨w9,hw9⟩:∃ w9,w9=((((((((((((w8.setCell ⟨a,0,none⟩ (.int .i64 y0)).setCell ⟨a,1,none⟩ (.int .i64 y1)).setCell ⟨a,2,none⟩ (.int .i64 y2)).setCell ⟨a,3,none⟩ (.int .i64 y3)).setCell ⟨a,4,none⟩ (.string y4)).setCell ⟨a,5,none⟩ (.string y5)).setCell ⟨a,6,none⟩ (.string y6)).setCell ⟨a,7,none⟩ (.slice ya yb yc)).setCell ⟨a,8,none⟩ (.slice yd ye yf)).setCell ⟨a,9,none⟩ (.slice yg yh yi)).setCell ⟨a,10,none⟩ (.bool y7)).setCell ⟨a,11,none⟩ (.string y8)):=⟨_,rfl⟩
   have r9:w9.heap[a]?=some (.cells #[.int .i64 y0,.int .i64 y1,.int .i64 y2,.int .i64 y3,.string y4,.string y5,.string y6,.slice ya yb yc,.slice yd ye yf,.slice yg yh yi,.bool y7,.string y8] 27 (0,0)):=by rw[hw9];exact row12_set w8 (hg:=HA8.out) ..
   have b9:Below a w8 w9:=by rw[hw9];exact row12_below w8 _ _ (Nat.le_refl _) _ _ _ _ _ _ _ _ _ _ _ _
   have z9:w9.heap.size=w8.heap.size:=by rw[hw9,row12_size]
   have s9:∀ k,¬ k=a→w9.heap[k]?=w8.heap[k]?:=fun k hk=>by rw[hw9];exact row12_other w8 _ k hk ..
   rw[←hw9]
   clear hw9 qA fA
   have hb9:=Hb8.out.trans (b9.mono (Nat.le_of_eq HA.out.symm))
   have hB9:=(s9 (a+1) (by omega)).trans HB8.out
   have hC9:=(s9 (a+1+1) (by omega)).trans HC8.out
   have hD9:=(s9 (a+1+1+1) (by omega)).trans HD8.out
   have T9:TrAt (a+1+1+1+1) s r.2.2 v w9:=(s9 _ (by omega)).trans HM.out.cells
   have z9a:w8.heap.size≤w9.heap.size:=Nat.le_of_eq z9.symm
   obtain ⟨ov,hov⟩:∃ ov,overB s r.2.2=ov:=⟨_,rfl⟩
   have CO:=trOver_is (a+1+1+1+1) s r.2.2 v w9 ov T9 hs HM.out.le hov
   go_wp2_with fail
   refine CO.mono ?_
   rintro e w10 ⟨rfl,j10,e10⟩
   have b10:Below w9.heap.size w9 w10:=by rw[e10];exact Go.below_drewN (Below.refl _ _) _
   clear e10 CO z9
   have T10:=T9.below b10 T9.lt
   have hA8:=(b10.block a (by omega)).trans r9
   have hB8:=(b10.block (a+1) (by omega)).trans hB9
   have hC8:=(b10.block (a+1+1) (by omega)).trans hC9
   have hD8:=(b10.block (a+1+1+1) (by omega)).trans hD9
   have hb8:=hb9.trans (b10.mono hb9.size)
   have hm:=HMM.out
   change (if overB s r.2.2=true then _ else _) at hm
   rw[hov] at hm
   clear r9 hB9 hC9 hD9 T9 hb9 hov
   cases ov with
   | false=>
    rw[if_neg (by decide)] at hm
    obtain ⟨rfl,rfl,rfl,rfl⟩:=hm
    have c10:=T10.cell
    go_wp2_with fail
    refine (trRaise_is r.2.2 5 _).mono ?_
    rintro e w11 ⟨rfl,rfl⟩
    clear c10 T10
    refine leaves_cons (f:=14) (args:=#[.pointer (some ⟨a,0,none⟩),.pointer (some ⟨a+1,0,none⟩),.pointer (some ⟨a+1+1,0,none⟩),.pointer (some ⟨a+1+1+1,0,none⟩)]) (by simp) (by simp[go_sem]) ?_
    refine (trCatch_panic a _ _ _ _ _ _ _ _ _ _ _ _ _ _ _ _ _ _ hA8 hB8 hC8 hD8).mono ?_
    rintro e u' w12 ⟨rfl,rfl,b12,t0,t1,t2,t3⟩
    have q0:=fun j=>cell_of_row w12 _ j _ _ _ t0
    have q1:=fun j=>cell_of_row w12 _ j _ _ _ t1
    have q2:=fun j=>cell_of_row w12 _ j _ _ _ t2
    have q3:=fun j=>cell_of_row w12 _ j _ _ _ t3
    refine ⟨.tuple #[.agg #[.int .i64 0,.int .i64 0,.int .i64 0,.int .i64 0,.string ⟨#[]⟩,.string ⟨#[]⟩,.string ⟨#[]⟩,.slice none 0 0,.slice none 0 0,.slice none 0 0,.bool false,.string ⟨#[]⟩],.slice none 0 0,.int .i64 _,.int .i64 _],(by simp[results,Tryz.results8,go_sem,q0,q1,q2,q3];exact ⟨rfl,rfl⟩),?_⟩
    exact ⟨_,.slice none 0 0,rfl,⟨_,_,_,_,_,_,_,_,_,_,_,_,_,_,_,_,_,_,rfl⟩,ComsR.nil _ _,fun t ht=>(by cases ht),hb8.trans (b12.mono (Nat.le_of_eq HA.out.symm))⟩
   | true=>
    rw[if_pos rfl] at hm
    obtain ⟨rfl,rfl,rfl,rfl⟩:=hm
    have c10:=T10.cell
    have f10:=T10.free
    have q0:=fun j=>cell_of_row w10 _ j _ _ _ hA8
    have f0:=fun j=>frozen_of_row w10 _ j _ _ hA8
    have q1:=fun j=>cell_of_row w10 _ j _ _ _ hB8
    have f1:=fun j=>frozen_of_row w10 _ j _ _ hB8
    have q2:=fun j=>cell_of_row w10 _ j _ _ _ hC8
    have f2:=fun j=>frozen_of_row w10 _ j _ _ hC8
    have q3:=fun j=>cell_of_row w10 _ j _ _ _ hD8
    have f3:=fun j=>frozen_of_row w10 _ j _ _ hD8
    obtain ⟨va,vc,rfl⟩:=HM.out.has.form
    have CT:=fun W hW=>trTake_is (a+1+1+1+1) s r.2.2 (.slice va r.2.1.length vc) W hW
    go_wp2_with fail
    have e0:w10.setCell ⟨a,0,none⟩ (.int .i64 y0)=w10:=setCell_self hA8 rfl
    have e1:w10.setCell ⟨a,1,none⟩ (.int .i64 y1)=w10:=setCell_self hA8 rfl
    have e2:w10.setCell ⟨a,2,none⟩ (.int .i64 y2)=w10:=setCell_self hA8 rfl
    have e3:w10.setCell ⟨a,3,none⟩ (.int .i64 y3)=w10:=setCell_self hA8 rfl
    have e4:w10.setCell ⟨a,4,none⟩ (.string y4)=w10:=setCell_self hA8 rfl
    have e5:w10.setCell ⟨a,5,none⟩ (.string y5)=w10:=setCell_self hA8 rfl
    have e6:w10.setCell ⟨a,6,none⟩ (.string y6)=w10:=setCell_self hA8 rfl
    have e7:w10.setCell ⟨a,7,none⟩ (.slice ya yb yc)=w10:=setCell_self hA8 rfl
    have e8:w10.setCell ⟨a,8,none⟩ (.slice yd ye yf)=w10:=setCell_self hA8 rfl
    have e9:w10.setCell ⟨a,9,none⟩ (.slice yg yh yi)=w10:=setCell_self hA8 rfl
    have e10:w10.setCell ⟨a,10,none⟩ (.bool y7)=w10:=setCell_self hA8 rfl
    have e11:w10.setCell ⟨a,11,none⟩ (.string y8)=w10:=setCell_self hA8 rfl
    go_cut [6] from 30 to 33 (fun v6 wx=>v6=.pointer (some ⟨a,0,none⟩)∧wx=(((((((((((((((((w10.setCell ⟨a+1+1+1+1,2,none⟩ (.slice none 0 0)).setCell ⟨a,0,none⟩ (.int .i64 y0)).setCell ⟨a,1,none⟩ (.int .i64 y1)).setCell ⟨a,2,none⟩ (.int .i64 y2)).setCell ⟨a,3,none⟩ (.int .i64 y3)).setCell ⟨a,4,none⟩ (.string y4)).setCell ⟨a,5,none⟩ (.string y5)).setCell ⟨a,6,none⟩ (.string y6)).setCell ⟨a,7,none⟩ (.slice ya yb yc)).setCell ⟨a,8,none⟩ (.slice yd ye yf)).setCell ⟨a,9,none⟩ (.slice yg yh yi)).setCell ⟨a,10,none⟩ (.bool y7)).setCell ⟨a,11,none⟩ (.string y8))).setCell ⟨a+1,0,none⟩ (.slice va r.2.1.length vc)).setCell ⟨a+1+1,0,none⟩ (.int .i64 (r.2.2:Int))).setCell ⟨a+1+1+1,0,none⟩ (.int .i64 0)).drew)
    case first=>
     refine wp_onlyN ?_
     go_region_with (go_at_call 18;refine (CT _ (by exact T10)).mono ?_;rintro e w11 ⟨rfl,rfl⟩)
     all_goals
      refine onlyN_then ?_
      go_wp2_with fail
      go_meet
      exact ⟨rfl,rfl⟩
    case rest=>
     obtain ⟨rfl,rfl⟩:=hcut
     obtain ⟨w11,hw11⟩:∃ w11,w11=w10.setCell ⟨a+1+1+1+1,2,none⟩ (.slice none 0 0):=⟨_,rfl⟩
     have hA11:w11.heap[a]?=some (.cells #[.int .i64 y0,.int .i64 y1,.int .i64 y2,.int .i64 y3,.string y4,.string y5,.string y6,.slice ya yb yc,.slice yd ye yf,.slice yg yh yi,.bool y7,.string y8] 27 (0,0)):=by rw[hw11];exact (heap_setCell_other _ _ _ _ (by intro h;first|omega|(dsimp only at h;omega))).trans hA8
     have hB11:w11.heap[a+1]?=some (.cells #[.slice none 0 0] 25 (0,0)):=by rw[hw11];exact (heap_setCell_other _ _ _ _ (by intro h;first|omega|(dsimp only at h;omega))).trans hB8
     have hC11:w11.heap[a+1+1]?=some (.cells #[.int .i64 0] 3 (0,0)):=by rw[hw11];exact (heap_setCell_other _ _ _ _ (by intro h;first|omega|(dsimp only at h;omega))).trans hC8
     have hD11:w11.heap[a+1+1+1]?=some (.cells #[.int .i64 0] 28 (0,0)):=by rw[hw11];exact (heap_setCell_other _ _ _ _ (by intro h;first|omega|(dsimp only at h;omega))).trans hD8
     have s11:∀ j,¬ j=a+1+1+1+1→w11.heap[j]?=w10.heap[j]?:=fun j hj=>by rw[hw11];exact heap_setCell_other _ _ _ _ hj
     have b11:Below a w10 w11:=by rw[hw11];exact (Below.refl _ _).setCell (p:=⟨a+1+1+1+1,2,none⟩) (by show a≤a+1+1+1+1;omega) _
     have z11:w11.heap.size=w10.heap.size:=by rw[hw11];simp[World.setCell]
     rw[←hw11]
     obtain ⟨w12,hw12⟩:∃ w12,w12=((((((((((((w11.setCell ⟨a,0,none⟩ (.int .i64 y0)).setCell ⟨a,1,none⟩ (.int .i64 y1)).setCell ⟨a,2,none⟩ (.int .i64 y2)).setCell ⟨a,3,none⟩ (.int .i64 y3)).setCell ⟨a,4,none⟩ (.string y4)).setCell ⟨a,5,none⟩ (.string y5)).setCell ⟨a,6,none⟩ (.string y6)).setCell ⟨a,7,none⟩ (.slice ya yb yc)).setCell ⟨a,8,none⟩ (.slice yd ye yf)).setCell ⟨a,9,none⟩ (.slice yg yh yi)).setCell ⟨a,10,none⟩ (.bool y7)).setCell ⟨a,11,none⟩ (.string y8)):=⟨_,rfl⟩
     have r12:w12.heap[a]?=some (.cells #[.int .i64 y0,.int .i64 y1,.int .i64 y2,.int .i64 y3,.string y4,.string y5,.string y6,.slice ya yb yc,.slice yd ye yf,.slice yg yh yi,.bool y7,.string y8] 27 (0,0)):=by rw[hw12];exact row12_set w11 (hg:=hA11) ..
     have b12:Below a w11 w12:=by rw[hw12];exact row12_below w11 _ _ (Nat.le_refl _) _ _ _ _ _ _ _ _ _ _ _ _
     have z12:w12.heap.size=w11.heap.size:=by rw[hw12,row12_size]
     have s12:∀ k,¬ k=a→w12.heap[k]?=w11.heap[k]?:=fun k hk=>by rw[hw12];exact row12_other w11 _ k hk ..
     rw[←hw12]
     obtain ⟨w13,hw13⟩:∃ w13,w13=(((w12.setCell ⟨a+1,0,none⟩ (.slice va r.2.1.length vc)).setCell ⟨a+1+1,0,none⟩ (.int .i64 (r.2.2:Int))).setCell ⟨a+1+1+1,0,none⟩ (.int .i64 0)):=⟨_,rfl⟩
     have s13:∀ j,(∀ i,i<4→¬ j=a+i)→¬ j=a+1+1+1+1→w13.heap[j]?=w10.heap[j]?:=fun j hj hg=>by
      have h0:=hj 0 (by omega);have h1:=hj 1 (by omega);have h2:=hj 2 (by omega);have h3:=hj 3 (by omega)
      rw[hw13]
      exact (heap_setCell_other _ _ _ _ h3).trans ((heap_setCell_other _ _ _ _ h2).trans ((heap_setCell_other _ _ _ _ h1).trans ((s12 j h0).trans (s11 j hg))))
     have b13:Below a w12 w13:=by rw[hw13];exact (((Below.refl _ _).setCell (p:=⟨a+1,0,none⟩) (by show a≤a+1;omega) _).setCell (p:=⟨a+1+1,0,none⟩) (by show a≤a+1+1;omega) _).setCell (p:=⟨a+1+1+1,0,none⟩) (by show a≤a+1+1+1;omega) _
     have z13:w13.heap.size=w12.heap.size:=by rw[hw13];simp[World.setCell]
     have t0:w13.heap[a]?=some (.cells #[.int .i64 y0,.int .i64 y1,.int .i64 y2,.int .i64 y3,.string y4,.string y5,.string y6,.slice ya yb yc,.slice yd ye yf,.slice yg yh yi,.bool y7,.string y8] 27 (0,0)):=by rw[hw13];exact (heap_setCell_other _ _ _ _ (by intro h;first|omega|(dsimp only at h;omega))).trans ((heap_setCell_other _ _ _ _ (by intro h;first|omega|(dsimp only at h;omega))).trans ((heap_setCell_other _ _ _ _ (by intro h;first|omega|(dsimp only at h;omega))).trans r12))
     have t1:w13.heap[a+1]?=some (.cells #[.slice va r.2.1.length vc] 25 (0,0)):=by rw[hw13];exact (heap_setCell_other _ _ _ _ (by intro h;first|omega|(dsimp only at h;omega))).trans ((heap_setCell_other _ _ _ _ (by intro h;first|omega|(dsimp only at h;omega))).trans (heap_setCell_same _ _ 0 _ _ _ ((s12 (a+1) (by intro h;first|omega|(dsimp only at h;omega))).trans hB11)))
     have t2:w13.heap[a+1+1]?=some (.cells #[.int .i64 (r.2.2:Int)] 3 (0,0)):=by rw[hw13];exact (heap_setCell_other _ _ _ _ (by intro h;first|omega|(dsimp only at h;omega))).trans (heap_setCell_same _ _ 0 _ _ _ ((heap_setCell_other _ _ _ _ (by intro h;first|omega|(dsimp only at h;omega))).trans ((s12 (a+1+1) (by intro h;first|omega|(dsimp only at h;omega))).trans hC11)))
     have t3:w13.heap[a+1+1+1]?=some (.cells #[.int .i64 0] 28 (0,0)):=by rw[hw13];exact heap_setCell_same _ _ 0 _ _ _ ((heap_setCell_other _ _ _ _ (by intro h;first|omega|(dsimp only at h;omega))).trans ((heap_setCell_other _ _ _ _ (by intro h;first|omega|(dsimp only at h;omega))).trans ((s12 (a+1+1+1) (by intro h;first|omega|(dsimp only at h;omega))).trans hD11)))
     rw[←hw13]
     have b14:Below a w10 w13:=(b11.trans b12).trans b13
     have z10:=b10.size
     have FR:∀ j,W7.heap.size≤j→j<w8.heap.size→w13.heap[j]?=w8.heap[j]?:=fun j h1 h2=>(s13 j (fun i hi=>by omega) (by omega)).trans ((b10.block j (by omega)).trans (s9 j (by omega)))
     have z14:w13.heap.size=w10.heap.size:=by omega
     clear hw11 hw12 hw13 e0 e1 e2 e3 e4 e5 e6 e7 e8 e9 e10 e11 hA11 hB11 hC11 hD11 s11 s12 b11 b12 b13 z11 z12 z13 r12 q0 f0 q1 f1 q2 f2 q3 f3 c10 f10 CT
     go_wp2
     refine leaves_cons (f:=14) (args:=#[.pointer (some ⟨a,0,none⟩),.pointer (some ⟨a+1,0,none⟩),.pointer (some ⟨a+1+1,0,none⟩),.pointer (some ⟨a+1+1+1,0,none⟩)]) (by simp) (by simp[go_sem]) ?_
     refine (trCatch_idle _ _ _ _ _).mono ?_
     rintro e u' w15 ⟨rfl,rfl,rfl⟩
     have q0:∀ j,w13.drew.cell? ⟨a,j,none⟩=(#[.int .i64 y0,.int .i64 y1,.int .i64 y2,.int .i64 y3,.string y4,.string y5,.string y6,.slice ya yb yc,.slice yd ye yf,.slice yg yh yi,.bool y7,.string y8]:Array Value)[j]?:=fun j=>cell_of_row w13 _ j _ _ _ t0
     have q1:∀ j,w13.drew.cell? ⟨a+1,j,none⟩=(#[.slice va r.2.1.length vc]:Array Value)[j]?:=fun j=>cell_of_row w13 _ j _ _ _ t1
     have q2:∀ j,w13.drew.cell? ⟨a+1+1,j,none⟩=(#[.int .i64 (r.2.2:Int)]:Array Value)[j]?:=fun j=>cell_of_row w13 _ j _ _ _ t2
     have q3:∀ j,w13.drew.cell? ⟨a+1+1+1,j,none⟩=(#[.int .i64 0]:Array Value)[j]?:=fun j=>cell_of_row w13 _ j _ _ _ t3
     refine ⟨.tuple #[.agg #[.int .i64 y0,.int .i64 y1,.int .i64 y2,.int .i64 y3,.string y4,.string y5,.string y6,.slice ya yb yc,.slice yd ye yf,.slice yg yh yi,.bool y7,.string y8],.slice va r.2.1.length vc,.int .i64 (r.2.2:Int),.int .i64 0],(by simp[results,Tryz.results8,go_sem,q0,q1,q2,q3]),?_⟩
     refine ⟨_,.slice va r.2.1.length vc,rfl,⟨_,_,_,_,_,_,_,_,_,_,_,_,_,_,_,_,_,_,rfl⟩,?_,?_,hb8.trans ((b14.mono (Nat.le_of_eq HA.out.symm)).drew)⟩
     ·exact HM.out.has.toComs.frame fun j hj=>by
       have h1:=(HM.out.own j hj).1
       have h2:=HM.out.has.own j hj
       exact ⟨⟨by have:=HA.out;omega,by show j<w13.heap.size;omega⟩,FR j h1 h2⟩
     ·intro t ht
      injection ht with ht
      subst ht
      exact IsN.frame (w':=w13.drew) (fun j hj=>by
       have h1:=HM.out.new j hj
       exact ⟨⟨by have:=HA.out;omega,by show j<w13.heap.size;omega⟩,FR j h1.1 h1.2⟩) _ _ HN.out
end Go.Proofs.YthcmkpiajkbpnaaGreatDoor
