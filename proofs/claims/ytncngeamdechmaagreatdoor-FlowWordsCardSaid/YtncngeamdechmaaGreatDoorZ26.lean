/- Parts of the proof, put together from smaller texts (blanks that Lean does not want are struck). Conditions: those that each theorem writes out. -/
import Derived.Test.YtncngeamdechmaaGreatDoorZ25
namespace Go.Proofs.YtncngeamdechmaaGreatDoor
open Go.RowKit
theorem RS.bare {g:Nat} {s:ByteArray} {n:Int} {p e:Nat} {w:World} (h:FlAt g s n (p:Int) (e:Int) (.slice none 0 0) false w) (he:e≤p) (hp:p≤s.size):RS g s n ⟨[],false,e,p⟩ (.slice none 0 0) w:=⟨h,HasV.nil 2 _,(fun e=>by cases e),⟨he,hp,by show 0+e≤p;omega,fun e=>by cases e⟩⟩
theorem void_M {g:Nat} {s:ByteArray} {n:Int} {w w9:World} {A T:List UInt8} {p:Int} {C:Int} {o:Rd (NT × Rst)} {r:Rst} {v:Value} (hK:Keep (Lv w.heap.size g []) w w9) (hR:RS g s n r v w9) (hv:NewV w.heap.size [] v) (ho:ResN o C (.mk (voidH A T p) []) r) :
  NodeM g s n w [] o (headC (voidH A T p) (.slice none 0 0) (.slice none 0 0) (.slice none 0 0)) C w9 (.mk (voidH A T p) []) r v (fun _=>False):=
 ⟨IsN.shut (ComsR.nil _ _) (ComsR.nil _ _) (NodesR.nil _ _),hR.b,fun _ h=>h.elim,fun _ h=>h.elim,fun _ h=>h.elim,hv,hK,fun _=>Nat.zero_le _,ho,fun _ _=>hR.ok⟩
theorem props_M {g:Nat} {s:ByteArray} {n:Int} {w W w3 w9:World} {oc:Rd (NT × Rst)} {cs:List Value} {c:Int} {x:NT} {r:Rst} {v:Value} {R:Nat→Prop} (M:NodeM g s n W [] oc cs c w3 x r v R)
  (hb:Keep (Lv w.heap.size g []) w W) (A:Nat→Prop) (hA:∀ k,A k→w.heap.size≤k∧k<W.heap.size∧k≠g) (hs:∀ k,¬ A k→w9.heap[k]?=w3.heap[k]?) (hz:w9.heap.size=w3.heap.size) (ho:w9.os=w3.os∧w9.tape=w3.tape∧w9.output=w3.output)
  (a t:List UInt8) (p:Int) (l:Coms) (v1:Value) (h1:HasV 2 W v1 l.length (comV l)) (hv1:∀ k,v1.ownBlock=some k→w.heap.size≤k∧k≠g∧¬ A k) (hl:l.length≤40000) :
  NodeM g s n w [] (rdMap (fun y=>(y.1.withProps a t p l,y.2)) oc) (((((cs.set 8 v1).set 2 (.int .i64 p)).set 4 (.string ⟨a.toArray⟩)).set 5 (.string ⟨t.toArray⟩))) c w9 (x.withProps a t p l) r v (fun k=>R k∨v1.ownBlock=some k):=by
 have P:=M.put hb (fun u hu=>by cases hu) A (fun k hk=>⟨(hA k hk).1,(hA k hk).2.1,(hA k hk).2.2,fun u hu=>by cases hu⟩) hs hz ho
 have hown:∀ k,v1.ownBlock=some k→k<W.heap.size:=h1.own
 have hw3:∀ k,v1.ownBlock=some k→w9.heap[k]?=W.heap[k]?:=fun k hk=>(hs k (hv1 k hk).2.2).trans (M.keep.block k ⟨hown k hk,(hv1 k hk).2.1,fun u hu=>by cases hu⟩)
 have h9:HasV 2 w9 v1 l.length (comV l):=h1.keep fun k hk _=>hw3 k hk
 refine ⟨?_,P.st,fun k hk=>?_,fun k hk=>?_,fun k hk=>?_,P.new,P.keep,fun _=>hl,?_,P.wfMap⟩
 ·obtain ⟨kv,lv,fv,rfl,g1,g2,g3⟩:=P.node.open
  exact IsN.shut (h9.toComs.frame fun b hb=>⟨.inr hb,rfl⟩) (g2.frame fun b hb=>⟨.inl hb,rfl⟩) (g3.frame fun b hb=>⟨.inl hb,rfl⟩)
 ·rcases hk with hk|hk
  ·exact P.lt k hk
  ·rw[hz];exact Nat.lt_of_lt_of_le (hown k hk) M.keep.size
 ·rcases hk with hk|hk
  ·exact P.ne k hk
  ·refine ⟨(hv1 k hk).2.1,fun e=>?_⟩
   rcases M.new k e with h2|⟨u,hu,_⟩
   ·exact absurd (hown k hk) (Nat.not_lt.2 h2)
   ·cases hu
 ·rcases hk with hk|hk
  ·exact P.own k hk
  ·exact .inl (hv1 k hk).1
 ·have:=M.res
  cases oc with
  | ok y=>exact ⟨this.1,by show (y.1.withProps a t p l,y.2)=_;rw[this.2]⟩
  | bad q k=>exact this
set_option maxRecDepth 100000 in
set_option maxHeartbeats 3200000 in
theorem flNode_bare (w0:World) (hEv:Env w0) (g:Nat) (s:ByteArray) (hs:s.size≤10000) (n:Int) (col:Nat→Nat→Rd (NT × Nat)→Prop) (hcol:CollC w0 g s n col) (deep p fin:Nat) (o:Rd (NT × Rst)) (w:World) (hd:deep≤100) (h:RS g s n ⟨[],false,fin,p⟩ (.slice none 0 0) w) (hB:Bs w0 w []) (A T:List UInt8) (hZ:PropZ s (p:Int) true A T (p:Int) 0) (ho:contP s n col deep p o) :
  Calls Tryz.prog 26 #[.pointer (some ⟨g,0,none⟩),.int .i64 (deep:Int)] w fun e w'=>NodePost g s n w [] o e w':=by
 have hwf:=h.ok
 have hA:=h.cells
 have hg:=hA.lt
 have CR:=fun W=>propRead_is A T (p:Int) 0 s (p:Int) true W (by omega) hZ
 obtain ⟨XA,hXA⟩:∃ X:ByteArray,X=⟨A.toArray⟩:=⟨_,rfl⟩
 obtain ⟨XT,hXT⟩:∃ X:ByteArray,X=⟨T.toArray⟩:=⟨_,rfl⟩
 rw[←hXA,←hXT] at CR
 have HX:=Lib.hid (And.intro hXA hXT)
 obtain ⟨W1,hW1⟩:∃ W1,W1=w.alloc (.cells #[.int .i64 0,.int .i64 0,.int .i64 0,.int .i64 0,.string ⟨#[]⟩,.string ⟨#[]⟩,.string ⟨#[]⟩,.slice none 0 0,.slice none 0 0,.slice none 0 0,.bool false,.string ⟨#[]⟩] 30):=⟨_,rfl⟩
 have z1:W1.heap.size=w.heap.size+1:=by rw[hW1];simp
 have b1:Below w.heap.size w W1:=by rw[hW1];exact (Below.refl _ _).alloc (Nat.le_refl _) _
 have ra:W1.heap[w.heap.size]?=some (.cells #[.int .i64 0,.int .i64 0,.int .i64 0,.int .i64 0,.string ⟨#[]⟩,.string ⟨#[]⟩,.string ⟨#[]⟩,.slice none 0 0,.slice none 0 0,.slice none 0 0,.bool false,.string ⟨#[]⟩] 30 (0,0)):=by rw[hW1];exact heap_alloc_new w _
 have h1:=hA.below b1 hg
 have c1:=h1.cell
 have HW:=Lib.hid hW1
 clear hW1 hA hXA hXT
 go_enter Tryz.func26,Tryz.ntmps26
 go_upto_region 1 with fail
 rw[←HW.out]
 go_wp2_with (first
  | (go_at_call 36;refine (CR _).mono ?_;rintro e w2 ⟨rfl,b2⟩;have h2:=h1.below b2 h1.lt;have c2:=h2.cell;have CO:=flContent_is w0 hEv g s hs n col hcol deep p fin o w2 hd (RS.bare h2 hwf.le hwf.top) ⟨hB.below.trans ((b1.mono hB.below.size).trans (b2.mono (by have:=hB.below.size;omega))),fun u hu=>by cases hu⟩ ho;have ra2:=(b2.block w.heap.size (by omega)).trans ra)
  | (go_at_call 37;refine CO.mono ?_;rintro e w3 ⟨cs,c3,rfl,x,r,v,R,M⟩;have sz2:=b2.size;have ra3:=(M.keep.block w.heap.size ⟨by omega,by omega,fun v hv=>by cases hv⟩).trans ra2;have q3:∀ j,w3.cell? ⟨w.heap.size,j,none⟩=(#[.int .i64 0,.int .i64 0,.int .i64 0,.int .i64 0,.string ⟨#[]⟩,.string ⟨#[]⟩,.string ⟨#[]⟩,.slice none 0 0,.slice none 0 0,.slice none 0 0,.bool false,.string ⟨#[]⟩]:Array Value)[j]?:=fun j=>cell_of_row w3 _ j _ _ _ ra3;have f3:∀ j,w3.frozen? ⟨w.heap.size,j,none⟩=false:=fun j=>frozen_of_row w3 _ j _ _ ra3;obtain ⟨i0,i1,i2,i3,s4,s5,s6,ak,nk,ck,al,nl,cl,af,nf,cf,b10,s11,rfl⟩:=M.node.cells12;have HM:=Lib.hid M;clear M))
 obtain ⟨w12,hw12⟩:∃ w12,w12=((((((((((((w3.setCell ⟨w.heap.size,0,none⟩ (.int .i64 i0)).setCell ⟨w.heap.size,1,none⟩ (.int .i64 i1)).setCell ⟨w.heap.size,2,none⟩ (.int .i64 i2)).setCell ⟨w.heap.size,3,none⟩ (.int .i64 i3)).setCell ⟨w.heap.size,4,none⟩ (.string s4)).setCell ⟨w.heap.size,5,none⟩ (.string s5)).setCell ⟨w.heap.size,6,none⟩ (.string s6)).setCell ⟨w.heap.size,7,none⟩ (.slice ak nk ck)).setCell ⟨w.heap.size,8,none⟩ (.slice al nl cl)).setCell ⟨w.heap.size,9,none⟩ (.slice af nf cf)).setCell ⟨w.heap.size,10,none⟩ (.bool b10)).setCell ⟨w.heap.size,11,none⟩ (.string s11)):=⟨_,rfl⟩
 have r12:w12.heap[w.heap.size]?=some (.cells #[.int .i64 i0,.int .i64 i1,.int .i64 i2,.int .i64 i3,.string s4,.string s5,.string s6,.slice ak nk ck,.slice al nl cl,.slice af nf cf,.bool b10,.string s11] 30 (0,0)):=by rw[hw12];exact row12_set w3 (hg:=ra3) ..
 have b12:Below w.heap.size w3 w12:=by rw[hw12];exact row12_below w3 _ _ (Nat.le_refl _) _ _ _ _ _ _ _ _ _ _ _ _
 have z12:w12.heap.size=w3.heap.size:=by rw[hw12,row12_size]
 have s12:∀ k,¬ k=w.heap.size→w12.heap[k]?=w3.heap[k]?:=fun k hk=>by rw[hw12];exact row12_other w3 _ k hk ..
 rw[←hw12]
 clear hw12 q3 f3
 have hcz:∀ j,w12.cell? ⟨w.heap.size,j,none⟩=(#[.int .i64 i0,.int .i64 i1,.int .i64 i2,.int .i64 i3,.string s4,.string s5,.string s6,.slice ak nk ck,.slice al nl cl,.slice af nf cf,.bool b10,.string s11]:Array Value)[j]?:=fun j=>cell_of_row w12 _ j _ _ _ r12
 refine bodyPost_ret (v:=.tuple #[.agg #[.int .i64 i0,.int .i64 i1,.int .i64 i2,.int .i64 i3,.string s4,.string s5,.string s6,.slice ak nk ck,.slice al nl cl,.slice af nf cf,.bool b10,.string s11],.int .i64 c3]) (by simp[results,Tryz.results26,go_sem,hcz]) rfl ?_
 exact ⟨_,c3,rfl,x,r,v,R,HM.out.put (Keep.of (b1.trans (b2.mono (by omega))) (fun k hk=>hk.1)) (fun u hu=>by cases hu) (fun k=>k=w.heap.size) (fun k hk=>⟨Nat.le_of_eq hk.symm,by omega,by omega,fun u hu=>by cases hu⟩) s12 z12 ⟨b12.os,b12.tape,b12.output⟩⟩
set_option maxRecDepth 100000 in
set_option maxHeartbeats 3200000 in
theorem flNode_fault (g:Nat) (s:ByteArray) (hs:s.size≤10000) (n:Int) (deep p fin:Nat) (o:Rd (NT × Rst)) (w:World) (h:RS g s n ⟨[],false,fin,p⟩ (.slice none 0 0) w) (A T:List UInt8) (E:Nat) (C:Int) (hE:E≤s.size) (hC:C≠0) (hZ:PropZ s (p:Int) true A T (E:Int) C) (ho:o=.bad E C) :
  Calls Tryz.prog 26 #[.pointer (some ⟨g,0,none⟩),.int .i64 (deep:Int)] w fun e w'=>NodePost g s n w [] o e w':=by
 subst ho
 have hcb:(C==0)=false:=by rw[beq_eq_false_iff_ne];exact hC
 have hA:=h.cells
 have hg:=hA.lt
 have CR:=fun W=>propRead_is A T (E:Int) C s (p:Int) true W (by omega) hZ
 obtain ⟨XA,hXA⟩:∃ X:ByteArray,X=⟨A.toArray⟩:=⟨_,rfl⟩
 obtain ⟨XT,hXT⟩:∃ X:ByteArray,X=⟨T.toArray⟩:=⟨_,rfl⟩
 rw[←hXA,←hXT] at CR
 have HX:=Lib.hid (And.intro hXA hXT)
 obtain ⟨W1,hW1⟩:∃ W1,W1=w.alloc (.cells #[.int .i64 0,.int .i64 0,.int .i64 0,.int .i64 0,.string ⟨#[]⟩,.string ⟨#[]⟩,.string ⟨#[]⟩,.slice none 0 0,.slice none 0 0,.slice none 0 0,.bool false,.string ⟨#[]⟩] 30):=⟨_,rfl⟩
 have z1:W1.heap.size=w.heap.size+1:=by rw[hW1];simp
 have b1:Below w.heap.size w W1:=by rw[hW1];exact (Below.refl _ _).alloc (Nat.le_refl _) _
 have ra:W1.heap[w.heap.size]?=some (.cells #[.int .i64 0,.int .i64 0,.int .i64 0,.int .i64 0,.string ⟨#[]⟩,.string ⟨#[]⟩,.string ⟨#[]⟩,.slice none 0 0,.slice none 0 0,.slice none 0 0,.bool false,.string ⟨#[]⟩] 30 (0,0)):=by rw[hW1];exact heap_alloc_new w _
 have h1:=hA.below b1 hg
 have c1:=h1.cell
 have HW:=Lib.hid hW1
 clear hW1 hA hXA hXT
 go_enter Tryz.func26,Tryz.ntmps26
 go_upto_region 1 with fail
 rw[←HW.out]
 have CE:∀ W,Calls Tryz.prog 30 #[] W fun e w'=>e=.returned (.agg #[.int .i64 1,.int .i64 1,.int .i64 (-1),.int .i64 0,.string ⟨#[]⟩,.string ⟨#[]⟩,.string ⟨#[]⟩,.slice none 0 0,.slice none 0 0,.slice none 0 0,.bool false,.string ⟨#[]⟩])∧Below W.heap.size W w':=fun W=>flEmpty_is W
 go_upto_region 9 with (first
  | (go_at_call 36;refine (CR _).mono ?_;rintro e w2 ⟨rfl,b2⟩;have h2:=h1.below b2 h1.lt;have sz2:=b2.size;have ra2:=(b2.block w.heap.size (by omega)).trans ra)
  | (go_at_call 18;refine (flPass_is g s n _ _ (E:Int) (.slice none 0 0) false _ h2).mono ?_;rintro e w3 ⟨rfl,h3,g3,z3⟩;have R3:=RS.bare h3 (Nat.le_refl _) hE;have ra3:=(g3.block w.heap.size (by omega) (fun e=>Nat.ne_of_lt hg (by injection e with e;exact e.symm))).trans ra2;have K3:Keep (Lv w.heap.size g []) w w3:=⟨g3.os.trans (b2.os.trans b1.os),g3.tape.trans (b2.tape.trans b1.tape),g3.output.trans (b2.output.trans b1.output),by omega,fun k hk=>by rw[g3.block k (by have:=hk.1;omega) (fun e=>hk.2.1 (by injection e)),b2.block k (by have:=hk.1;omega),b1.block k hk.1]⟩)
  | (go_at_call 30;refine (CE _).mono ?_;rintro e w5 ⟨rfl,b5⟩;have R4:=R3;have N4:NewV w.heap.size [] (.slice none 0 0):=NewV.none;have K4:=K3;have ra4:=ra3;have sz4:=Nat.le_refl w3.heap.size))
 have sz5:=b5.size
 have R5:=R4.below b5 (Nat.le_refl _)
 have ra5:=(b5.block w.heap.size (by omega)).trans ra4
 have K5:Keep (Lv w.heap.size g []) w w5:=K4.trans (Keep.of b5 (fun k hk=>hk)) (fun k hk=>Nat.lt_of_lt_of_le hk.1 K4.size)
 obtain ⟨w6,hw6⟩:∃ w6,w6=w5.alloc (.cells #[.int .i64 1,.int .i64 1,.int .i64 (-1),.int .i64 0,.string ⟨#[]⟩,.string ⟨#[]⟩,.string ⟨#[]⟩,.slice none 0 0,.slice none 0 0,.slice none 0 0,.bool false,.string ⟨#[]⟩] 30):=⟨_,rfl⟩
 have z6:w6.heap.size=w5.heap.size+1:=by rw[hw6];simp
 have b6:Below w5.heap.size w5 w6:=by rw[hw6];exact (Below.refl _ _).alloc (Nat.le_refl _) _
 have r6:w6.heap[w5.heap.size]?=some (.cells #[.int .i64 1,.int .i64 1,.int .i64 (-1),.int .i64 0,.string ⟨#[]⟩,.string ⟨#[]⟩,.string ⟨#[]⟩,.slice none 0 0,.slice none 0 0,.slice none 0 0,.bool false,.string ⟨#[]⟩] 30 (0,0)):=by rw[hw6];exact heap_alloc_new w5 _
 have R6:=R5.below b6 (Nat.le_refl _)
 have ra6:=(b6.block w.heap.size (by omega)).trans ra5
 have K6:Keep (Lv w.heap.size g []) w w6:=K5.trans (Keep.of b6 (fun k hk=>hk)) (fun k hk=>Nat.lt_of_lt_of_le hk.1 K5.size)
 rw[←hw6]
 clear hw6
 obtain ⟨nb,hnb⟩:∃ nb,nb=w5.heap.size:=⟨_,rfl⟩
 rw[←hnb] at r6 z6 ⊢
 have hg6:=R6.cells.lt
 have hgn:g≠nb:=by have:=R5.cells.lt;omega
 have han:w.heap.size<nb:=by omega
 have HNB:=Lib.hid hnb
 clear hnb
 have R7:=R6
 have r7:=r6
 have ra7:=ra6
 have K7:=K6
 obtain ⟨w7,hw7⟩:∃ w7,w7=w6:=⟨_,rfl⟩
 rw[←hw7] at R7 r7 ra7 K7 ⊢
 clear hw7
 have hnv:∀ k,(Value.slice none 0 0).ownBlock=some k→k≠w.heap.size∧k≠nb:=fun k hk=>by cases hk
 have q7:∀ j,w7.cell? ⟨nb,j,none⟩=(#[.int .i64 1,.int .i64 1,.int .i64 (-1),.int .i64 0,.string ⟨#[]⟩,.string ⟨#[]⟩,.string ⟨#[]⟩,.slice none 0 0,.slice none 0 0,.slice none 0 0,.bool false,.string ⟨#[]⟩]:Array Value)[j]?:=fun j=>cell_of_row w7 _ j _ _ _ r7
 have f7:∀ j,w7.frozen? ⟨nb,j,none⟩=false:=fun j=>frozen_of_row w7 _ j _ _ r7
 have qa7:∀ j,w7.cell? ⟨w.heap.size,j,none⟩=(#[.int .i64 0,.int .i64 0,.int .i64 0,.int .i64 0,.string ⟨#[]⟩,.string ⟨#[]⟩,.string ⟨#[]⟩,.slice none 0 0,.slice none 0 0,.slice none 0 0,.bool false,.string ⟨#[]⟩]:Array Value)[j]?:=fun j=>cell_of_row w7 _ j _ _ _ ra7
 have fa7:∀ j,w7.frozen? ⟨w.heap.size,j,none⟩=false:=fun j=>frozen_of_row w7 _ j _ _ ra7
 have hane:w.heap.size≠nb:=by omega
 have HM:=Lib.hid (And.intro R7 (And.intro N4 K7))
 clear R7 N4 K7
 go_wp2
 obtain ⟨w8,hw8⟩:∃ w8,w8=((w7.setCell ⟨nb,2,none⟩ (.int .i64 (p:Int))).setCell ⟨nb,4,none⟩ (.string XA)).setCell ⟨nb,5,none⟩ (.string XT):=⟨_,rfl⟩
 have s8:∀ k,k≠nb→w8.heap[k]?=w7.heap[k]?:=fun k hk=>by rw[hw8,heap_setCell_other _ _ _ _ hk,heap_setCell_other _ _ _ _ hk,heap_setCell_other _ _ _ _ hk]
 have z8:w8.heap.size=w7.heap.size:=by rw[hw8];simp[World.setCell]
 have o8:w8.os=w7.os∧w8.tape=w7.tape∧w8.output=w7.output:=by rw[hw8];exact ⟨rfl,rfl,rfl⟩
 have ra8:=(s8 w.heap.size hane).trans ra7
 rw[←hw8]
 clear hw8
 obtain ⟨w12,hw12⟩:∃ w12,w12=((((((((((((w8.setCell ⟨w.heap.size,0,none⟩ (.int .i64 1)).setCell ⟨w.heap.size,1,none⟩ (.int .i64 1)).setCell ⟨w.heap.size,2,none⟩ (.int .i64 (p:Int))).setCell ⟨w.heap.size,3,none⟩ (.int .i64 0)).setCell ⟨w.heap.size,4,none⟩ (.string XA)).setCell ⟨w.heap.size,5,none⟩ (.string XT)).setCell ⟨w.heap.size,6,none⟩ (.string ⟨#[]⟩)).setCell ⟨w.heap.size,7,none⟩ (.slice none 0 0)).setCell ⟨w.heap.size,8,none⟩ (.slice none 0 0)).setCell ⟨w.heap.size,9,none⟩ (.slice none 0 0)).setCell ⟨w.heap.size,10,none⟩ (.bool false)).setCell ⟨w.heap.size,11,none⟩ (.string ⟨#[]⟩)):=⟨_,rfl⟩
 have r12:w12.heap[w.heap.size]?=some (.cells #[.int .i64 1,.int .i64 1,.int .i64 (p:Int),.int .i64 0,.string XA,.string XT,.string ⟨#[]⟩,.slice none 0 0,.slice none 0 0,.slice none 0 0,.bool false,.string ⟨#[]⟩] 30 (0,0)):=by rw[hw12];exact row12_set w8 (hg:=ra8) ..
 have b12:Below w.heap.size w8 w12:=by rw[hw12];exact row12_below w8 _ _ (Nat.le_refl _) _ _ _ _ _ _ _ _ _ _ _ _
 have z12:w12.heap.size=w8.heap.size:=by rw[hw12,row12_size]
 have s12:∀ k,¬ k=w.heap.size→w12.heap[k]?=w8.heap[k]?:=fun k hk=>by rw[hw12];exact row12_other w8 _ k hk ..
 rw[←hw12]
 clear hw12 q7 f7 qa7 fa7
 have hcz:∀ j,w12.cell? ⟨w.heap.size,j,none⟩=(#[.int .i64 1,.int .i64 1,.int .i64 (p:Int),.int .i64 0,.string XA,.string XT,.string ⟨#[]⟩,.slice none 0 0,.slice none 0 0,.slice none 0 0,.bool false,.string ⟨#[]⟩]:Array Value)[j]?:=fun j=>cell_of_row w12 _ j _ _ _ r12
 refine bodyPost_ret (v:=.tuple #[.agg #[.int .i64 1,.int .i64 1,.int .i64 (p:Int),.int .i64 0,.string XA,.string XT,.string ⟨#[]⟩,.slice none 0 0,.slice none 0 0,.slice none 0 0,.bool false,.string ⟨#[]⟩],.int .i64 C]) (by simp[results,Tryz.results26,go_sem,hcz]) rfl ?_
 obtain ⟨R7,N4,K7⟩:=HM.out
 obtain ⟨rfl,rfl⟩:=HX.out
 have hn7:∀ k,(Value.slice none 0 0).ownBlock=some k→k≠w.heap.size∧k≠nb:=fun k hk=>hnv k hk
 have R12:=R7.keep (w':=w12) (fun k _ hk=>(s12 k (by rcases hk with rfl|hk;exact Nat.ne_of_lt hg;exact (hn7 k hk).1)).trans (s8 k (by rcases hk with rfl|hk;exact hgn;exact (hn7 k hk).2)))
 have K12:Keep (Lv w.heap.size g []) w w12:=K7.trans (Q:=fun k=>k<w.heap.size) ⟨b12.os.trans o8.1,b12.tape.trans o8.2.1,b12.output.trans o8.2.2,by omega,fun k hk=>(b12.block k hk).trans (s8 k (by omega))⟩ (fun k hk=>hk.1)
 exact ⟨_,C,rfl,_,_,_,_,void_M K12 R12 N4 ⟨rfl,hC,rfl⟩⟩
set_option maxRecDepth 100000 in
set_option maxHeartbeats 3200000 in
theorem flNode_skip (g:Nat) (s:ByteArray) (hs:s.size≤10000) (n:Int) (deep p fin:Nat) (o:Rd (NT × Rst)) (w:World) (h:RS g s n ⟨[],false,fin,p⟩ (.slice none 0 0) w) (A T:List UInt8) (E:Nat) (hE:E≤s.size) (hne:E≠p) (hZ:PropZ s (p:Int) true A T (E:Int) 0) (q:Nat) (c0:Int) (ho1:skipP s n (fresh E) (.bad q c0)) (ho:o=.bad q c0) :
  Calls Tryz.prog 26 #[.pointer (some ⟨g,0,none⟩),.int .i64 (deep:Int)] w fun e w'=>NodePost g s n w [] o e w':=by
 subst ho
 have hne2:((E:Int)==(p:Int))=false:=by rw[beq_eq_false_iff_ne];omega
 have hA:=h.cells
 have hg:=hA.lt
 have CR:=fun W=>propRead_is A T (E:Int) 0 s (p:Int) true W (by omega) hZ
 obtain ⟨XA,hXA⟩:∃ X:ByteArray,X=⟨A.toArray⟩:=⟨_,rfl⟩
 obtain ⟨XT,hXT⟩:∃ X:ByteArray,X=⟨T.toArray⟩:=⟨_,rfl⟩
 rw[←hXA,←hXT] at CR
 have HX:=Lib.hid (And.intro hXA hXT)
 obtain ⟨W1,hW1⟩:∃ W1,W1=w.alloc (.cells #[.int .i64 0,.int .i64 0,.int .i64 0,.int .i64 0,.string ⟨#[]⟩,.string ⟨#[]⟩,.string ⟨#[]⟩,.slice none 0 0,.slice none 0 0,.slice none 0 0,.bool false,.string ⟨#[]⟩] 30):=⟨_,rfl⟩
 have z1:W1.heap.size=w.heap.size+1:=by rw[hW1];simp
 have b1:Below w.heap.size w W1:=by rw[hW1];exact (Below.refl _ _).alloc (Nat.le_refl _) _
 have ra:W1.heap[w.heap.size]?=some (.cells #[.int .i64 0,.int .i64 0,.int .i64 0,.int .i64 0,.string ⟨#[]⟩,.string ⟨#[]⟩,.string ⟨#[]⟩,.slice none 0 0,.slice none 0 0,.slice none 0 0,.bool false,.string ⟨#[]⟩] 30 (0,0)):=by rw[hW1];exact heap_alloc_new w _
 have h1:=hA.below b1 hg
 have c1:=h1.cell
 have HW:=Lib.hid hW1
 clear hW1 hA hXA hXT
 go_enter Tryz.func26,Tryz.ntmps26
 go_upto_region 1 with fail
 rw[←HW.out]
 have CE:∀ W,Calls Tryz.prog 30 #[] W fun e w'=>e=.returned (.agg #[.int .i64 1,.int .i64 1,.int .i64 (-1),.int .i64 0,.string ⟨#[]⟩,.string ⟨#[]⟩,.string ⟨#[]⟩,.slice none 0 0,.slice none 0 0,.slice none 0 0,.bool false,.string ⟨#[]⟩])∧Below W.heap.size W w':=fun W=>flEmpty_is W
 go_upto_region 9 with (first
  | (go_at_call 36;refine (CR _).mono ?_;rintro e w2 ⟨rfl,b2⟩;have h2:=h1.below b2 h1.lt;have sz2:=b2.size;have ra2:=(b2.block w.heap.size (by omega)).trans ra)
  | (go_at_call 18;refine (flPass_is g s n _ _ (E:Int) (.slice none 0 0) false _ h2).mono ?_;rintro e w3 ⟨rfl,h3,g3,z3⟩;have R3:=RS.bare h3 (Nat.le_refl _) hE;have ra3:=(g3.block w.heap.size (by omega) (fun e=>Nat.ne_of_lt hg (by injection e with e;exact e.symm))).trans ra2;have K3:Keep (Lv w.heap.size g []) w w3:=⟨g3.os.trans (b2.os.trans b1.os),g3.tape.trans (b2.tape.trans b1.tape),g3.output.trans (b2.output.trans b1.output),by omega,fun k hk=>by rw[g3.block k (by have:=hk.1;omega) (fun e=>hk.2.1 (by injection e)),b2.block k (by have:=hk.1;omega),b1.block k hk.1]⟩)
  | (go_at_call 19;refine (flSkip_of g s n (fresh E) (.slice none 0 0) (.bad q c0) _ R3 hs ho1).mono ?_;rintro e w4 ⟨c4,v1,r1,rfl,R4,n4,K34,res4⟩;have N4:NewV w.heap.size [] v1:=n4.trans K3.size (one_mem NewV.none);have K4:=K3.trans K34 (Lv.step K3.size (one_mem NewV.none));have ra4:=(K34.block w.heap.size ⟨by omega,by omega,(fun u hu e=>by rw[List.mem_singleton] at hu;subst hu;cases e)⟩).trans ra3;have sz4:=K34.size;have V4:∀ k,v1.ownBlock=some k→w3.heap.size≤k∧k<w4.heap.size:=fun k hk=>⟨(by rcases n4 k hk with h|⟨u,hu,h⟩;exact h;rw[List.mem_singleton] at hu;subst hu;cases h),R4.has.own k hk⟩;obtain ⟨e4,hc4,hq4⟩:=res4;have HE4:=Lib.hid e4;clear e4;have hcb:(c4==0)=false:=by rw[beq_eq_false_iff_ne];exact hc4)
  | (go_at_call 30;refine (CE _).mono ?_;rintro e w5 ⟨rfl,b5⟩))
 have sz5:=b5.size
 have R5:=R4.below b5 (Nat.le_refl _)
 have ra5:=(b5.block w.heap.size (by omega)).trans ra4
 have K5:Keep (Lv w.heap.size g []) w w5:=K4.trans (Keep.of b5 (fun k hk=>hk)) (fun k hk=>Nat.lt_of_lt_of_le hk.1 K4.size)
 obtain ⟨w6,hw6⟩:∃ w6,w6=w5.alloc (.cells #[.int .i64 1,.int .i64 1,.int .i64 (-1),.int .i64 0,.string ⟨#[]⟩,.string ⟨#[]⟩,.string ⟨#[]⟩,.slice none 0 0,.slice none 0 0,.slice none 0 0,.bool false,.string ⟨#[]⟩] 30):=⟨_,rfl⟩
 have z6:w6.heap.size=w5.heap.size+1:=by rw[hw6];simp
 have b6:Below w5.heap.size w5 w6:=by rw[hw6];exact (Below.refl _ _).alloc (Nat.le_refl _) _
 have r6:w6.heap[w5.heap.size]?=some (.cells #[.int .i64 1,.int .i64 1,.int .i64 (-1),.int .i64 0,.string ⟨#[]⟩,.string ⟨#[]⟩,.string ⟨#[]⟩,.slice none 0 0,.slice none 0 0,.slice none 0 0,.bool false,.string ⟨#[]⟩] 30 (0,0)):=by rw[hw6];exact heap_alloc_new w5 _
 have R6:=R5.below b6 (Nat.le_refl _)
 have ra6:=(b6.block w.heap.size (by omega)).trans ra5
 have K6:Keep (Lv w.heap.size g []) w w6:=K5.trans (Keep.of b6 (fun k hk=>hk)) (fun k hk=>Nat.lt_of_lt_of_le hk.1 K5.size)
 rw[←hw6]
 clear hw6
 obtain ⟨nb,hnb⟩:∃ nb,nb=w5.heap.size:=⟨_,rfl⟩
 rw[←hnb] at r6 z6 ⊢
 have hg6:=R6.cells.lt
 have hgn:g≠nb:=by have:=R5.cells.lt;omega
 have han:w.heap.size<nb:=by omega
 have HNB:=Lib.hid hnb
 clear hnb
 have R7:=R6
 have r7:=r6
 have ra7:=ra6
 have K7:=K6
 obtain ⟨w7,hw7⟩:∃ w7,w7=w6:=⟨_,rfl⟩
 rw[←hw7] at R7 r7 ra7 K7 ⊢
 clear hw7
 have hnv:∀ k,v1.ownBlock=some k→k≠w.heap.size∧k≠nb:=fun k hk=>by have:=V4 k hk;have:=HNB.out;omega
 have q7:∀ j,w7.cell? ⟨nb,j,none⟩=(#[.int .i64 1,.int .i64 1,.int .i64 (-1),.int .i64 0,.string ⟨#[]⟩,.string ⟨#[]⟩,.string ⟨#[]⟩,.slice none 0 0,.slice none 0 0,.slice none 0 0,.bool false,.string ⟨#[]⟩]:Array Value)[j]?:=fun j=>cell_of_row w7 _ j _ _ _ r7
 have f7:∀ j,w7.frozen? ⟨nb,j,none⟩=false:=fun j=>frozen_of_row w7 _ j _ _ r7
 have qa7:∀ j,w7.cell? ⟨w.heap.size,j,none⟩=(#[.int .i64 0,.int .i64 0,.int .i64 0,.int .i64 0,.string ⟨#[]⟩,.string ⟨#[]⟩,.string ⟨#[]⟩,.slice none 0 0,.slice none 0 0,.slice none 0 0,.bool false,.string ⟨#[]⟩]:Array Value)[j]?:=fun j=>cell_of_row w7 _ j _ _ _ ra7
 have fa7:∀ j,w7.frozen? ⟨w.heap.size,j,none⟩=false:=fun j=>frozen_of_row w7 _ j _ _ ra7
 have hane:w.heap.size≠nb:=by omega
 have HM:=Lib.hid (And.intro R7 (And.intro N4 K7))
 clear R7 N4 K7
 go_wp2
 obtain ⟨w8,hw8⟩:∃ w8,w8=((w7.setCell ⟨nb,2,none⟩ (.int .i64 (p:Int))).setCell ⟨nb,4,none⟩ (.string XA)).setCell ⟨nb,5,none⟩ (.string XT):=⟨_,rfl⟩
 have s8:∀ k,k≠nb→w8.heap[k]?=w7.heap[k]?:=fun k hk=>by rw[hw8,heap_setCell_other _ _ _ _ hk,heap_setCell_other _ _ _ _ hk,heap_setCell_other _ _ _ _ hk]
 have z8:w8.heap.size=w7.heap.size:=by rw[hw8];simp[World.setCell]
 have o8:w8.os=w7.os∧w8.tape=w7.tape∧w8.output=w7.output:=by rw[hw8];exact ⟨rfl,rfl,rfl⟩
 have ra8:=(s8 w.heap.size hane).trans ra7
 rw[←hw8]
 clear hw8
 obtain ⟨w12,hw12⟩:∃ w12,w12=((((((((((((w8.setCell ⟨w.heap.size,0,none⟩ (.int .i64 1)).setCell ⟨w.heap.size,1,none⟩ (.int .i64 1)).setCell ⟨w.heap.size,2,none⟩ (.int .i64 (p:Int))).setCell ⟨w.heap.size,3,none⟩ (.int .i64 0)).setCell ⟨w.heap.size,4,none⟩ (.string XA)).setCell ⟨w.heap.size,5,none⟩ (.string XT)).setCell ⟨w.heap.size,6,none⟩ (.string ⟨#[]⟩)).setCell ⟨w.heap.size,7,none⟩ (.slice none 0 0)).setCell ⟨w.heap.size,8,none⟩ (.slice none 0 0)).setCell ⟨w.heap.size,9,none⟩ (.slice none 0 0)).setCell ⟨w.heap.size,10,none⟩ (.bool false)).setCell ⟨w.heap.size,11,none⟩ (.string ⟨#[]⟩)):=⟨_,rfl⟩
 have r12:w12.heap[w.heap.size]?=some (.cells #[.int .i64 1,.int .i64 1,.int .i64 (p:Int),.int .i64 0,.string XA,.string XT,.string ⟨#[]⟩,.slice none 0 0,.slice none 0 0,.slice none 0 0,.bool false,.string ⟨#[]⟩] 30 (0,0)):=by rw[hw12];exact row12_set w8 (hg:=ra8) ..
 have b12:Below w.heap.size w8 w12:=by rw[hw12];exact row12_below w8 _ _ (Nat.le_refl _) _ _ _ _ _ _ _ _ _ _ _ _
 have z12:w12.heap.size=w8.heap.size:=by rw[hw12,row12_size]
 have s12:∀ k,¬ k=w.heap.size→w12.heap[k]?=w8.heap[k]?:=fun k hk=>by rw[hw12];exact row12_other w8 _ k hk ..
 rw[←hw12]
 clear hw12 q7 f7 qa7 fa7
 have hcz:∀ j,w12.cell? ⟨w.heap.size,j,none⟩=(#[.int .i64 1,.int .i64 1,.int .i64 (p:Int),.int .i64 0,.string XA,.string XT,.string ⟨#[]⟩,.slice none 0 0,.slice none 0 0,.slice none 0 0,.bool false,.string ⟨#[]⟩]:Array Value)[j]?:=fun j=>cell_of_row w12 _ j _ _ _ r12
 refine bodyPost_ret (v:=.tuple #[.agg #[.int .i64 1,.int .i64 1,.int .i64 (p:Int),.int .i64 0,.string XA,.string XT,.string ⟨#[]⟩,.slice none 0 0,.slice none 0 0,.slice none 0 0,.bool false,.string ⟨#[]⟩],.int .i64 c4]) (by simp[results,Tryz.results26,go_sem,hcz]) rfl ?_
 obtain ⟨R7,N4,K7⟩:=HM.out
 obtain ⟨rfl,rfl⟩:=HX.out
 have hn7:∀ k,v1.ownBlock=some k→k≠w.heap.size∧k≠nb:=fun k hk=>hnv k hk
 have R12:=R7.keep (w':=w12) (fun k _ hk=>(s12 k (by rcases hk with rfl|hk;exact Nat.ne_of_lt hg;exact (hn7 k hk).1)).trans (s8 k (by rcases hk with rfl|hk;exact hgn;exact (hn7 k hk).2)))
 have K12:Keep (Lv w.heap.size g []) w w12:=K7.trans (Q:=fun k=>k<w.heap.size) ⟨b12.os.trans o8.1,b12.tape.trans o8.2.1,b12.output.trans o8.2.2,by omega,fun k hk=>(b12.block k hk).trans (s8 k (by omega))⟩ (fun k hk=>hk.1)
 exact ⟨_,c4,rfl,_,_,_,_,void_M K12 R12 N4 ⟨HE4.out,hc4,hq4⟩⟩
set_option maxRecDepth 100000 in
set_option maxHeartbeats 3200000 in
theorem flNode_void (g:Nat) (s:ByteArray) (hs:s.size≤10000) (n:Int) (deep p fin:Nat) (o:Rd (NT × Rst)) (w:World) (h:RS g s n ⟨[],false,fin,p⟩ (.slice none 0 0) w) (A T:List UInt8) (E:Nat) (hE:E≤s.size) (hne:E≠p) (hZ:PropZ s (p:Int) true A T (E:Int) 0) (r1:Rst) (ho1:skipP s n (fresh E) (.ok r1)) (hbeg:begP s r1.at'=false) (ho:o=.ok (.mk (voidH A T p) [],r1)) :
  Calls Tryz.prog 26 #[.pointer (some ⟨g,0,none⟩),.int .i64 (deep:Int)] w fun e w'=>NodePost g s n w [] o e w':=by
 subst ho
 have hne2:((E:Int)==(p:Int))=false:=by rw[beq_eq_false_iff_ne];omega
 have hA:=h.cells
 have hg:=hA.lt
 have CR:=fun W=>propRead_is A T (E:Int) 0 s (p:Int) true W (by omega) hZ
 obtain ⟨XA,hXA⟩:∃ X:ByteArray,X=⟨A.toArray⟩:=⟨_,rfl⟩
 obtain ⟨XT,hXT⟩:∃ X:ByteArray,X=⟨T.toArray⟩:=⟨_,rfl⟩
 rw[←hXA,←hXT] at CR
 have HX:=Lib.hid (And.intro hXA hXT)
 obtain ⟨W1,hW1⟩:∃ W1,W1=w.alloc (.cells #[.int .i64 0,.int .i64 0,.int .i64 0,.int .i64 0,.string ⟨#[]⟩,.string ⟨#[]⟩,.string ⟨#[]⟩,.slice none 0 0,.slice none 0 0,.slice none 0 0,.bool false,.string ⟨#[]⟩] 30):=⟨_,rfl⟩
 have z1:W1.heap.size=w.heap.size+1:=by rw[hW1];simp
 have b1:Below w.heap.size w W1:=by rw[hW1];exact (Below.refl _ _).alloc (Nat.le_refl _) _
 have ra:W1.heap[w.heap.size]?=some (.cells #[.int .i64 0,.int .i64 0,.int .i64 0,.int .i64 0,.string ⟨#[]⟩,.string ⟨#[]⟩,.string ⟨#[]⟩,.slice none 0 0,.slice none 0 0,.slice none 0 0,.bool false,.string ⟨#[]⟩] 30 (0,0)):=by rw[hW1];exact heap_alloc_new w _
 have h1:=hA.below b1 hg
 have c1:=h1.cell
 have HW:=Lib.hid hW1
 clear hW1 hA hXA hXT
 go_enter Tryz.func26,Tryz.ntmps26
 go_upto_region 1 with fail
 rw[←HW.out]
 have CE:∀ W,Calls Tryz.prog 30 #[] W fun e w'=>e=.returned (.agg #[.int .i64 1,.int .i64 1,.int .i64 (-1),.int .i64 0,.string ⟨#[]⟩,.string ⟨#[]⟩,.string ⟨#[]⟩,.slice none 0 0,.slice none 0 0,.slice none 0 0,.bool false,.string ⟨#[]⟩])∧Below W.heap.size W w':=fun W=>flEmpty_is W
 go_upto_region 9 with (first
  | (go_at_call 36;refine (CR _).mono ?_;rintro e w2 ⟨rfl,b2⟩;have h2:=h1.below b2 h1.lt;have sz2:=b2.size;have ra2:=(b2.block w.heap.size (by omega)).trans ra)
  | (go_at_call 18;refine (flPass_is g s n _ _ (E:Int) (.slice none 0 0) false _ h2).mono ?_;rintro e w3 ⟨rfl,h3,g3,z3⟩;have R3:=RS.bare h3 (Nat.le_refl _) hE;have ra3:=(g3.block w.heap.size (by omega) (fun e=>Nat.ne_of_lt hg (by injection e with e;exact e.symm))).trans ra2;have K3:Keep (Lv w.heap.size g []) w w3:=⟨g3.os.trans (b2.os.trans b1.os),g3.tape.trans (b2.tape.trans b1.tape),g3.output.trans (b2.output.trans b1.output),by omega,fun k hk=>by rw[g3.block k (by have:=hk.1;omega) (fun e=>hk.2.1 (by injection e)),b2.block k (by have:=hk.1;omega),b1.block k hk.1]⟩)
  | (go_at_call 19;refine (flSkip_of g s n (fresh E) (.slice none 0 0) (.ok r1) _ R3 hs ho1).mono ?_;rintro e w4 ⟨c4,v1,r1',rfl,R4,n4,K34,res4⟩;have N4:NewV w.heap.size [] v1:=n4.trans K3.size (one_mem NewV.none);have K4:=K3.trans K34 (Lv.step K3.size (one_mem NewV.none));have ra4:=(K34.block w.heap.size ⟨by omega,by omega,(fun u hu e=>by rw[List.mem_singleton] at hu;subst hu;cases e)⟩).trans ra3;have sz4:=K34.size;obtain ⟨rfl,rfl⟩:=res4;have V4:∀ k,v1.ownBlock=some k→w3.heap.size≤k∧k<w4.heap.size:=fun k hk=>⟨(by rcases n4 k hk with h|⟨u,hu,h⟩;exact h;rw[List.mem_singleton] at hu;subst hu;cases h),R4.has.own k hk⟩)
  | (go_at_call 30;refine (CE _).mono ?_;rintro e w5 ⟨rfl,b5⟩))
 have sz5:=b5.size
 have R5:=R4.below b5 (Nat.le_refl _)
 have ra5:=(b5.block w.heap.size (by omega)).trans ra4
 have K5:Keep (Lv w.heap.size g []) w w5:=K4.trans (Keep.of b5 (fun k hk=>hk)) (fun k hk=>Nat.lt_of_lt_of_le hk.1 K4.size)
 obtain ⟨w6,hw6⟩:∃ w6,w6=w5.alloc (.cells #[.int .i64 1,.int .i64 1,.int .i64 (-1),.int .i64 0,.string ⟨#[]⟩,.string ⟨#[]⟩,.string ⟨#[]⟩,.slice none 0 0,.slice none 0 0,.slice none 0 0,.bool false,.string ⟨#[]⟩] 30):=⟨_,rfl⟩
 have z6:w6.heap.size=w5.heap.size+1:=by rw[hw6];simp
 have b6:Below w5.heap.size w5 w6:=by rw[hw6];exact (Below.refl _ _).alloc (Nat.le_refl _) _
 have r6:w6.heap[w5.heap.size]?=some (.cells #[.int .i64 1,.int .i64 1,.int .i64 (-1),.int .i64 0,.string ⟨#[]⟩,.string ⟨#[]⟩,.string ⟨#[]⟩,.slice none 0 0,.slice none 0 0,.slice none 0 0,.bool false,.string ⟨#[]⟩] 30 (0,0)):=by rw[hw6];exact heap_alloc_new w5 _
 have R6:=R5.below b6 (Nat.le_refl _)
 have ra6:=(b6.block w.heap.size (by omega)).trans ra5
 have K6:Keep (Lv w.heap.size g []) w w6:=K5.trans (Keep.of b6 (fun k hk=>hk)) (fun k hk=>Nat.lt_of_lt_of_le hk.1 K5.size)
 rw[←hw6]
 clear hw6
 obtain ⟨nb,hnb⟩:∃ nb,nb=w5.heap.size:=⟨_,rfl⟩
 rw[←hnb] at r6 z6 ⊢
 have hg6:=R6.cells.lt
 have hgn:g≠nb:=by have:=R5.cells.lt;omega
 have han:w.heap.size<nb:=by omega
 have HNB:=Lib.hid hnb
 clear hnb
 have CB:=fun W H=>flBegins_is false g s n r1'.at' (r1'.fin:Int) v1 r1'.same W H (by omega) hbeg
 go_wp2_with fail
 refine (CB _ R6.cells).mono ?_
 rintro e w7' ⟨rfl,j1,rfl⟩
 obtain ⟨w7,hw7⟩:∃ w7,w7=w6.drewN j1:=⟨_,rfl⟩
 have R7:=R6.drewN j1
 have r7:(w6.drewN j1).heap[nb]?=_:=r6
 have ra7:(w6.drewN j1).heap[w.heap.size]?=_:=ra6
 have K7:=K6.drewN j1
 have z7:(w6.drewN j1).heap.size=nb+1:=z6
 rw[←hw7] at R7 r7 ra7 K7 z7 ⊢
 clear hw7 CB R6 r6 ra6 K6 b6 z6 hg6
 have hnv:∀ k,v1.ownBlock=some k→k≠w.heap.size∧k≠nb:=fun k hk=>by have:=V4 k hk;have:=HNB.out;omega
 have q7:∀ j,w7.cell? ⟨nb,j,none⟩=(#[.int .i64 1,.int .i64 1,.int .i64 (-1),.int .i64 0,.string ⟨#[]⟩,.string ⟨#[]⟩,.string ⟨#[]⟩,.slice none 0 0,.slice none 0 0,.slice none 0 0,.bool false,.string ⟨#[]⟩]:Array Value)[j]?:=fun j=>cell_of_row w7 _ j _ _ _ r7
 have f7:∀ j,w7.frozen? ⟨nb,j,none⟩=false:=fun j=>frozen_of_row w7 _ j _ _ r7
 have qa7:∀ j,w7.cell? ⟨w.heap.size,j,none⟩=(#[.int .i64 0,.int .i64 0,.int .i64 0,.int .i64 0,.string ⟨#[]⟩,.string ⟨#[]⟩,.string ⟨#[]⟩,.slice none 0 0,.slice none 0 0,.slice none 0 0,.bool false,.string ⟨#[]⟩]:Array Value)[j]?:=fun j=>cell_of_row w7 _ j _ _ _ ra7
 have fa7:∀ j,w7.frozen? ⟨w.heap.size,j,none⟩=false:=fun j=>frozen_of_row w7 _ j _ _ ra7
 have hane:w.heap.size≠nb:=by omega
 have HM:=Lib.hid (And.intro R7 (And.intro N4 K7))
 clear R7 N4 K7
 go_wp2
 obtain ⟨w8,hw8⟩:∃ w8,w8=((w7.setCell ⟨nb,2,none⟩ (.int .i64 (p:Int))).setCell ⟨nb,4,none⟩ (.string XA)).setCell ⟨nb,5,none⟩ (.string XT):=⟨_,rfl⟩
 have s8:∀ k,k≠nb→w8.heap[k]?=w7.heap[k]?:=fun k hk=>by rw[hw8,heap_setCell_other _ _ _ _ hk,heap_setCell_other _ _ _ _ hk,heap_setCell_other _ _ _ _ hk]
 have z8:w8.heap.size=w7.heap.size:=by rw[hw8];simp[World.setCell]
 have o8:w8.os=w7.os∧w8.tape=w7.tape∧w8.output=w7.output:=by rw[hw8];exact ⟨rfl,rfl,rfl⟩
 have ra8:=(s8 w.heap.size hane).trans ra7
 rw[←hw8]
 clear hw8
 obtain ⟨w12,hw12⟩:∃ w12,w12=((((((((((((w8.setCell ⟨w.heap.size,0,none⟩ (.int .i64 1)).setCell ⟨w.heap.size,1,none⟩ (.int .i64 1)).setCell ⟨w.heap.size,2,none⟩ (.int .i64 (p:Int))).setCell ⟨w.heap.size,3,none⟩ (.int .i64 0)).setCell ⟨w.heap.size,4,none⟩ (.string XA)).setCell ⟨w.heap.size,5,none⟩ (.string XT)).setCell ⟨w.heap.size,6,none⟩ (.string ⟨#[]⟩)).setCell ⟨w.heap.size,7,none⟩ (.slice none 0 0)).setCell ⟨w.heap.size,8,none⟩ (.slice none 0 0)).setCell ⟨w.heap.size,9,none⟩ (.slice none 0 0)).setCell ⟨w.heap.size,10,none⟩ (.bool false)).setCell ⟨w.heap.size,11,none⟩ (.string ⟨#[]⟩)):=⟨_,rfl⟩
 have r12:w12.heap[w.heap.size]?=some (.cells #[.int .i64 1,.int .i64 1,.int .i64 (p:Int),.int .i64 0,.string XA,.string XT,.string ⟨#[]⟩,.slice none 0 0,.slice none 0 0,.slice none 0 0,.bool false,.string ⟨#[]⟩] 30 (0,0)):=by rw[hw12];exact row12_set w8 (hg:=ra8) ..
 have b12:Below w.heap.size w8 w12:=by rw[hw12];exact row12_below w8 _ _ (Nat.le_refl _) _ _ _ _ _ _ _ _ _ _ _ _
 have z12:w12.heap.size=w8.heap.size:=by rw[hw12,row12_size]
 have s12:∀ k,¬ k=w.heap.size→w12.heap[k]?=w8.heap[k]?:=fun k hk=>by rw[hw12];exact row12_other w8 _ k hk ..
 rw[←hw12]
 clear hw12 q7 f7 qa7 fa7
 have hcz:∀ j,w12.cell? ⟨w.heap.size,j,none⟩=(#[.int .i64 1,.int .i64 1,.int .i64 (p:Int),.int .i64 0,.string XA,.string XT,.string ⟨#[]⟩,.slice none 0 0,.slice none 0 0,.slice none 0 0,.bool false,.string ⟨#[]⟩]:Array Value)[j]?:=fun j=>cell_of_row w12 _ j _ _ _ r12
 refine bodyPost_ret (v:=.tuple #[.agg #[.int .i64 1,.int .i64 1,.int .i64 (p:Int),.int .i64 0,.string XA,.string XT,.string ⟨#[]⟩,.slice none 0 0,.slice none 0 0,.slice none 0 0,.bool false,.string ⟨#[]⟩],.int .i64 0]) (by simp[results,Tryz.results26,go_sem,hcz]) rfl ?_
 obtain ⟨R7,N4,K7⟩:=HM.out
 obtain ⟨rfl,rfl⟩:=HX.out
 have hn7:∀ k,v1.ownBlock=some k→k≠w.heap.size∧k≠nb:=fun k hk=>hnv k hk
 have R12:=R7.keep (w':=w12) (fun k _ hk=>(s12 k (by rcases hk with rfl|hk;exact Nat.ne_of_lt hg;exact (hn7 k hk).1)).trans (s8 k (by rcases hk with rfl|hk;exact hgn;exact (hn7 k hk).2)))
 have K12:Keep (Lv w.heap.size g []) w w12:=K7.trans (Q:=fun k=>k<w.heap.size) ⟨b12.os.trans o8.1,b12.tape.trans o8.2.1,b12.output.trans o8.2.2,by omega,fun k hk=>(b12.block k hk).trans (s8 k (by omega))⟩ (fun k hk=>hk.1)
 exact ⟨_,0,rfl,_,_,_,_,void_M K12 R12 N4 ⟨rfl,rfl⟩⟩
set_option maxRecDepth 100000 in
set_option maxHeartbeats 3200000 in
theorem flNode_props (w0:World) (hEv:Env w0) (g:Nat) (hg0:w0.heap.size≤g) (s:ByteArray) (hs:s.size≤10000) (n:Int) (col:Nat→Nat→Rd (NT × Nat)→Prop) (hcol:CollC w0 g s n col) (deep p fin:Nat) (o:Rd (NT × Rst)) (w:World) (hd:deep≤100) (h:RS g s n ⟨[],false,fin,p⟩ (.slice none 0 0) w) (hB:Bs w0 w []) (A T:List UInt8) (E:Nat) (hE:E≤s.size) (hne:E≠p) (hZ:PropZ s (p:Int) true A T (E:Int) 0) (r1:Rst) (ho1:skipP s n (fresh E) (.ok r1)) (hbeg:begP s r1.at'=true) (oc:Rd (NT × Rst)) (hoc:contP s n col deep r1.at' oc) (ho:o=rdMap (fun y=>(y.1.withProps A T p r1.l,y.2)) oc) :
  Calls Tryz.prog 26 #[.pointer (some ⟨g,0,none⟩),.int .i64 (deep:Int)] w fun e w'=>NodePost g s n w [] o e w':=by
 subst ho
 have hne2:((E:Int)==(p:Int))=false:=by rw[beq_eq_false_iff_ne];omega
 have hA:=h.cells
 have hg:=hA.lt
 have CR:=fun W=>propRead_is A T (E:Int) 0 s (p:Int) true W (by omega) hZ
 obtain ⟨XA,hXA⟩:∃ X:ByteArray,X=⟨A.toArray⟩:=⟨_,rfl⟩
 obtain ⟨XT,hXT⟩:∃ X:ByteArray,X=⟨T.toArray⟩:=⟨_,rfl⟩
 rw[←hXA,←hXT] at CR
 have HX:=Lib.hid (And.intro hXA hXT)
 obtain ⟨W1,hW1⟩:∃ W1,W1=w.alloc (.cells #[.int .i64 0,.int .i64 0,.int .i64 0,.int .i64 0,.string ⟨#[]⟩,.string ⟨#[]⟩,.string ⟨#[]⟩,.slice none 0 0,.slice none 0 0,.slice none 0 0,.bool false,.string ⟨#[]⟩] 30):=⟨_,rfl⟩
 have z1:W1.heap.size=w.heap.size+1:=by rw[hW1];simp
 have b1:Below w.heap.size w W1:=by rw[hW1];exact (Below.refl _ _).alloc (Nat.le_refl _) _
 have ra:W1.heap[w.heap.size]?=some (.cells #[.int .i64 0,.int .i64 0,.int .i64 0,.int .i64 0,.string ⟨#[]⟩,.string ⟨#[]⟩,.string ⟨#[]⟩,.slice none 0 0,.slice none 0 0,.slice none 0 0,.bool false,.string ⟨#[]⟩] 30 (0,0)):=by rw[hW1];exact heap_alloc_new w _
 have h1:=hA.below b1 hg
 have c1:=h1.cell
 have HW:=Lib.hid hW1
 clear hW1 hA hXA hXT
 go_enter Tryz.func26,Tryz.ntmps26
 go_upto_region 1 with fail
 rw[←HW.out]
 have CE:∀ W,Calls Tryz.prog 30 #[] W fun e w'=>e=.returned (.agg #[.int .i64 1,.int .i64 1,.int .i64 (-1),.int .i64 0,.string ⟨#[]⟩,.string ⟨#[]⟩,.string ⟨#[]⟩,.slice none 0 0,.slice none 0 0,.slice none 0 0,.bool false,.string ⟨#[]⟩])∧Below W.heap.size W w':=fun W=>flEmpty_is W
 go_upto_region 9 with (first
  | (go_at_call 36;refine (CR _).mono ?_;rintro e w2 ⟨rfl,b2⟩;have h2:=h1.below b2 h1.lt;have sz2:=b2.size;have ra2:=(b2.block w.heap.size (by omega)).trans ra)
  | (go_at_call 18;refine (flPass_is g s n _ _ (E:Int) (.slice none 0 0) false _ h2).mono ?_;rintro e w3 ⟨rfl,h3,g3,z3⟩;have R3:=RS.bare h3 (Nat.le_refl _) hE;have ra3:=(g3.block w.heap.size (by omega) (fun e=>Nat.ne_of_lt hg (by injection e with e;exact e.symm))).trans ra2;have K3:Keep (Lv w.heap.size g []) w w3:=⟨g3.os.trans (b2.os.trans b1.os),g3.tape.trans (b2.tape.trans b1.tape),g3.output.trans (b2.output.trans b1.output),by omega,fun k hk=>by rw[g3.block k (by have:=hk.1;omega) (fun e=>hk.2.1 (by injection e)),b2.block k (by have:=hk.1;omega),b1.block k hk.1]⟩)
  | (go_at_call 19;refine (flSkip_of g s n (fresh E) (.slice none 0 0) (.ok r1) _ R3 hs ho1).mono ?_;rintro e w4 ⟨c4,v1,r1',rfl,R4,n4,K34,res4⟩;have N4:NewV w.heap.size [] v1:=n4.trans K3.size (one_mem NewV.none);have K4:=K3.trans K34 (Lv.step K3.size (one_mem NewV.none));have ra4:=(K34.block w.heap.size ⟨by omega,by omega,(fun u hu e=>by rw[List.mem_singleton] at hu;subst hu;cases e)⟩).trans ra3;have sz4:=K34.size;obtain ⟨rfl,rfl⟩:=res4;have V4:∀ k,v1.ownBlock=some k→w3.heap.size≤k∧k<w4.heap.size:=fun k hk=>⟨(by rcases n4 k hk with h|⟨u,hu,h⟩;exact h;rw[List.mem_singleton] at hu;subst hu;cases h),R4.has.own k hk⟩)
  | (go_at_call 30;refine (CE _).mono ?_;rintro e w5 ⟨rfl,b5⟩))
 have sz5:=b5.size
 have R5:=R4.below b5 (Nat.le_refl _)
 have ra5:=(b5.block w.heap.size (by omega)).trans ra4
 have K5:Keep (Lv w.heap.size g []) w w5:=K4.trans (Keep.of b5 (fun k hk=>hk)) (fun k hk=>Nat.lt_of_lt_of_le hk.1 K4.size)
 obtain ⟨w6,hw6⟩:∃ w6,w6=w5.alloc (.cells #[.int .i64 1,.int .i64 1,.int .i64 (-1),.int .i64 0,.string ⟨#[]⟩,.string ⟨#[]⟩,.string ⟨#[]⟩,.slice none 0 0,.slice none 0 0,.slice none 0 0,.bool false,.string ⟨#[]⟩] 30):=⟨_,rfl⟩
 have z6:w6.heap.size=w5.heap.size+1:=by rw[hw6];simp
 have b6:Below w5.heap.size w5 w6:=by rw[hw6];exact (Below.refl _ _).alloc (Nat.le_refl _) _
 have r6:w6.heap[w5.heap.size]?=some (.cells #[.int .i64 1,.int .i64 1,.int .i64 (-1),.int .i64 0,.string ⟨#[]⟩,.string ⟨#[]⟩,.string ⟨#[]⟩,.slice none 0 0,.slice none 0 0,.slice none 0 0,.bool false,.string ⟨#[]⟩] 30 (0,0)):=by rw[hw6];exact heap_alloc_new w5 _
 have R6:=R5.below b6 (Nat.le_refl _)
 have ra6:=(b6.block w.heap.size (by omega)).trans ra5
 have K6:Keep (Lv w.heap.size g []) w w6:=K5.trans (Keep.of b6 (fun k hk=>hk)) (fun k hk=>Nat.lt_of_lt_of_le hk.1 K5.size)
 rw[←hw6]
 clear hw6
 obtain ⟨nb,hnb⟩:∃ nb,nb=w5.heap.size:=⟨_,rfl⟩
 rw[←hnb] at r6 z6 ⊢
 have hg6:=R6.cells.lt
 have hgn:g≠nb:=by have:=R5.cells.lt;omega
 have han:w.heap.size<nb:=by omega
 have HNB:=Lib.hid hnb
 clear hnb
 have CB:=fun W H=>flBegins_is true g s n r1'.at' (r1'.fin:Int) v1 r1'.same W H (by omega) hbeg
 go_wp2_with fail
 refine (CB _ R6.cells).mono ?_
 rintro e w7' ⟨rfl,j1,rfl⟩
 obtain ⟨w7,hw7⟩:∃ w7,w7=w6.drewN j1:=⟨_,rfl⟩
 have R7:=R6.drewN j1
 have r7:(w6.drewN j1).heap[nb]?=_:=r6
 have ra7:(w6.drewN j1).heap[w.heap.size]?=_:=ra6
 have K7:=K6.drewN j1
 have z7:(w6.drewN j1).heap.size=nb+1:=z6
 rw[←hw7] at R7 r7 ra7 K7 z7 ⊢
 clear hw7 CB R6 r6 ra6 K6 b6 z6 hg6
 have N7:=N4
 have hnv:∀ k,v1.ownBlock=some k→w.heap.size<k∧k<nb:=fun k hk=>by have:=V4 k hk;have:=HNB.out;omega
 have hwf7:=R7.ok
 obtain ⟨a1,c1',rfl⟩:=R7.has.form
 obtain ⟨m1,hm1⟩:∃ m1,m1=r1'.l.length:=⟨_,rfl⟩
 have H7:=R7.has
 have A7:=R7.cells
 have ap7:=R7.apart
 rw[←hm1] at H7 A7 ap7 hnv
 have HM1:=Lib.hid hm1
 clear hm1 R7 V4 R4 R5 n4 N4 N7 b5 b2 b1 h2
 go_upto_region 12 with (first
  | (go_at_call 20;refine (flTake_is g s n _ _ a1 m1 c1' r1'.same _ A7).mono ?_;rintro e w8 ⟨rfl,h8,g8,z8⟩;have R8:=RS.bare h8 hwf7.le hwf7.top;have hgk:=A7.lt;have K8:Keep (Lv w.heap.size g []) w w8:=K7.trans (Q:=fun k=>k<w7.heap.size∧k≠g) ⟨g8.os,g8.tape,g8.output,g8.size,fun k hk=>g8.block k hk.1 (fun e=>hk.2 (by injection e))⟩ (fun k hk=>⟨Nat.lt_of_lt_of_le hk.1 K7.size,hk.2.1⟩);have CO:=flContent_is w0 hEv g s hs n col hcol deep r1'.at' r1'.fin oc w8 hd R8 (hB.next hg0 K8 (fun u hu=>by cases hu)) hoc;have ra8:=(g8.block w.heap.size (by omega) (fun e=>Nat.ne_of_lt hg (by injection e with e;exact e.symm))).trans ra7;have r8:=(g8.block nb (by omega) (fun e=>hgn (by injection e with e;exact e.symm))).trans r7;have H8:=H7.grown g8 (.inr ap7))
  | (go_at_call 37;refine CO.mono ?_;rintro e w9 ⟨cs,c9,rfl,x,r,v,R,M⟩;have ra9:=(M.keep.block w.heap.size ⟨by omega,by omega,fun v hv=>by cases hv⟩).trans ra8;have r9:=(M.keep.block nb ⟨by omega,fun e=>hgn e.symm,fun v hv=>by cases hv⟩).trans r8;have q9:∀ j,w9.cell? ⟨nb,j,none⟩=(#[.int .i64 1,.int .i64 1,.int .i64 (-1),.int .i64 0,.string ⟨#[]⟩,.string ⟨#[]⟩,.string ⟨#[]⟩,.slice none 0 0,.slice none 0 0,.slice none 0 0,.bool false,.string ⟨#[]⟩]:Array Value)[j]?:=fun j=>cell_of_row w9 _ j _ _ _ r9;have f9:∀ j,w9.frozen? ⟨nb,j,none⟩=false:=fun j=>frozen_of_row w9 _ j _ _ r9;obtain ⟨i0,i1,i2,i3,s4,s5,s6,ak,nk,ck,al,nl,cl,af,nf,cf,b10,s11,rfl⟩:=M.node.cells12;have HM:=Lib.hid M;clear M))
 obtain ⟨w10,hw10⟩:∃ w10,w10=((((((((((((w9.setCell ⟨nb,0,none⟩ (.int .i64 i0)).setCell ⟨nb,1,none⟩ (.int .i64 i1)).setCell ⟨nb,2,none⟩ (.int .i64 i2)).setCell ⟨nb,3,none⟩ (.int .i64 i3)).setCell ⟨nb,4,none⟩ (.string s4)).setCell ⟨nb,5,none⟩ (.string s5)).setCell ⟨nb,6,none⟩ (.string s6)).setCell ⟨nb,7,none⟩ (.slice ak nk ck)).setCell ⟨nb,8,none⟩ (.slice al nl cl)).setCell ⟨nb,9,none⟩ (.slice af nf cf)).setCell ⟨nb,10,none⟩ (.bool b10)).setCell ⟨nb,11,none⟩ (.string s11)):=⟨_,rfl⟩
 have r10:w10.heap[nb]?=some (.cells #[.int .i64 i0,.int .i64 i1,.int .i64 i2,.int .i64 i3,.string s4,.string s5,.string s6,.slice ak nk ck,.slice al nl cl,.slice af nf cf,.bool b10,.string s11] 30 (0,0)):=by rw[hw10];exact row12_set w9 (hg:=r9) ..
 have z10:w10.heap.size=w9.heap.size:=by rw[hw10,row12_size]
 have s10:∀ k,¬ k=nb→w10.heap[k]?=w9.heap[k]?:=fun k hk=>by rw[hw10];exact row12_other w9 _ k hk ..
 have b10':Below 0 w9 w10:=by rw[hw10];exact row12_below w9 _ _ (Nat.zero_le _) _ _ _ _ _ _ _ _ _ _ _ _
 have o10:w10.os=w9.os∧w10.tape=w9.tape∧w10.output=w9.output:=⟨b10'.os,b10'.tape,b10'.output⟩
 have hane:w.heap.size≠nb:=by omega
 have ra10:=(s10 w.heap.size hane).trans ra9
 rw[←hw10]
 clear hw10 q9 f9
 have q10:∀ j,w10.cell? ⟨nb,j,none⟩=(#[.int .i64 i0,.int .i64 i1,.int .i64 i2,.int .i64 i3,.string s4,.string s5,.string s6,.slice ak nk ck,.slice al nl cl,.slice af nf cf,.bool b10,.string s11]:Array Value)[j]?:=fun j=>cell_of_row w10 _ j _ _ _ r10
 have f10:∀ j,w10.frozen? ⟨nb,j,none⟩=false:=fun j=>frozen_of_row w10 _ j _ _ r10
 have qa10:∀ j,w10.cell? ⟨w.heap.size,j,none⟩=(#[.int .i64 0,.int .i64 0,.int .i64 0,.int .i64 0,.string ⟨#[]⟩,.string ⟨#[]⟩,.string ⟨#[]⟩,.slice none 0 0,.slice none 0 0,.slice none 0 0,.bool false,.string ⟨#[]⟩]:Array Value)[j]?:=fun j=>cell_of_row w10 _ j _ _ _ ra10
 have fa10:∀ j,w10.frozen? ⟨w.heap.size,j,none⟩=false:=fun j=>frozen_of_row w10 _ j _ _ ra10
 go_wp2
 obtain ⟨w11,hw11⟩:∃ w11,w11=(((w10.setCell ⟨nb,8,none⟩ (.slice a1 m1 c1')).setCell ⟨nb,2,none⟩ (.int .i64 (p:Int))).setCell ⟨nb,4,none⟩ (.string XA)).setCell ⟨nb,5,none⟩ (.string XT):=⟨_,rfl⟩
 have s11':∀ k,k≠nb→w11.heap[k]?=w10.heap[k]?:=fun k hk=>by rw[hw11,heap_setCell_other _ _ _ _ hk,heap_setCell_other _ _ _ _ hk,heap_setCell_other _ _ _ _ hk,heap_setCell_other _ _ _ _ hk]
 have z11:w11.heap.size=w10.heap.size:=by rw[hw11];simp[World.setCell]
 have o11:w11.os=w10.os∧w11.tape=w10.tape∧w11.output=w10.output:=by rw[hw11];exact ⟨rfl,rfl,rfl⟩
 have ra11:=(s11' w.heap.size hane).trans ra10
 rw[←hw11]
 clear hw11
 obtain ⟨w12,hw12⟩:∃ w12,w12=((((((((((((w11.setCell ⟨w.heap.size,0,none⟩ (.int .i64 i0)).setCell ⟨w.heap.size,1,none⟩ (.int .i64 i1)).setCell ⟨w.heap.size,2,none⟩ (.int .i64 (p:Int))).setCell ⟨w.heap.size,3,none⟩ (.int .i64 i3)).setCell ⟨w.heap.size,4,none⟩ (.string XA)).setCell ⟨w.heap.size,5,none⟩ (.string XT)).setCell ⟨w.heap.size,6,none⟩ (.string s6)).setCell ⟨w.heap.size,7,none⟩ (.slice ak nk ck)).setCell ⟨w.heap.size,8,none⟩ (.slice a1 m1 c1')).setCell ⟨w.heap.size,9,none⟩ (.slice af nf cf)).setCell ⟨w.heap.size,10,none⟩ (.bool b10)).setCell ⟨w.heap.size,11,none⟩ (.string s11)):=⟨_,rfl⟩
 have r12:w12.heap[w.heap.size]?=some (.cells #[.int .i64 i0,.int .i64 i1,.int .i64 (p:Int),.int .i64 i3,.string XA,.string XT,.string s6,.slice ak nk ck,.slice a1 m1 c1',.slice af nf cf,.bool b10,.string s11] 30 (0,0)):=by rw[hw12];exact row12_set w11 (hg:=ra11) ..
 have b12:Below w.heap.size w11 w12:=by rw[hw12];exact row12_below w11 _ _ (Nat.le_refl _) _ _ _ _ _ _ _ _ _ _ _ _
 have z12:w12.heap.size=w11.heap.size:=by rw[hw12,row12_size]
 have s12:∀ k,¬ k=w.heap.size→w12.heap[k]?=w11.heap[k]?:=fun k hk=>by rw[hw12];exact row12_other w11 _ k hk ..
 rw[←hw12]
 clear hw12 q10 f10 qa10 fa10
 have hcz:∀ j,w12.cell? ⟨w.heap.size,j,none⟩=(#[.int .i64 i0,.int .i64 i1,.int .i64 (p:Int),.int .i64 i3,.string XA,.string XT,.string s6,.slice ak nk ck,.slice a1 m1 c1',.slice af nf cf,.bool b10,.string s11]:Array Value)[j]?:=fun j=>cell_of_row w12 _ j _ _ _ r12
 refine bodyPost_ret (v:=.tuple #[.agg #[.int .i64 i0,.int .i64 i1,.int .i64 (p:Int),.int .i64 i3,.string XA,.string XT,.string s6,.slice ak nk ck,.slice a1 m1 c1',.slice af nf cf,.bool b10,.string s11],.int .i64 c9]) (by simp[results,Tryz.results26,go_sem,hcz]) rfl ?_
 obtain ⟨rfl,rfl⟩:=HX.out
 have hm1:=HM1.out
 subst hm1
 have hl4:r1'.l.length≤40000:=by have:=hwf7.few;have:=hwf7.top;omega
 exact ⟨_,c9,rfl,x.withProps A T p r1'.l,r,v,_,props_M HM.out K8 (fun k=>k=w.heap.size∨k=nb) (fun k hk=>by rcases hk with rfl|rfl;exact ⟨Nat.le_refl _,by omega,by omega⟩;exact ⟨by omega,by omega,fun e=>hgn e.symm⟩) (fun k hk=>(s12 k (fun e=>hk (.inl e))).trans ((s11' k (fun e=>hk (.inr e))).trans (s10 k (fun e=>hk (.inr e))))) (z12.trans (z11.trans z10)) ⟨b12.os.trans (o11.1.trans o10.1),b12.tape.trans (o11.2.1.trans o10.2.1),b12.output.trans (o11.2.2.trans o10.2.2)⟩ A T (p:Int) r1'.l _ H8 (fun k hk=>⟨Nat.le_of_lt (hnv k hk).1,fun e=>ap7 (by rw[hk,e]),fun e=>by have:=hnv k hk;rcases e with e|e <;> omega⟩) hl4⟩
theorem flNode_is (w0:World) (hEv:Env w0) (g:Nat) (hg0:w0.heap.size≤g) (s:ByteArray) (hs:s.size≤10000) (n:Int) (col:Nat→Nat→Rd (NT × Nat)→Prop) (hcol:CollC w0 g s n col) (deep p fin:Nat) (o:Rd (NT × Rst)) (w:World) (hd:deep≤100) (h:RS g s n ⟨[],false,fin,p⟩ (.slice none 0 0) w) (hB:Bs w0 w []) (ho:nodeP s n col deep p o) :
  Calls Tryz.prog 26 #[.pointer (some ⟨g,0,none⟩),.int .i64 (deep:Int)] w fun e w'=>NodePost g s n w [] o e w':=by
 have hp:p≤s.size:=h.ok.top
 obtain ⟨A,T,E,C,hZ,ho⟩:=ho
 obtain ⟨E',rfl,g1,g2⟩:=hZ.far_le hp
 by_cases hC:C=0
 ·subst hC
  rw[if_neg (fun e=>e rfl)] at ho
  by_cases hE:(E':Int)=(p:Int)
  ·rw[if_pos hE] at ho
   rw[hE] at hZ
   exact flNode_bare w0 hEv g s hs n col hcol deep p fin o w hd h hB A T hZ ho
  ·rw[if_neg hE,Int.toNat_natCast] at ho
   have hne:E'≠p:=fun e=>hE (by rw[e])
   rcases ho with ⟨q,c,h1,rfl⟩|⟨r,h1,h2⟩
   ·exact flNode_skip g s hs n deep p fin _ w h A T E' g2 hne hZ q c h1 rfl
   ·cases hb:begP s r.at' with
    | false=>
     rw[hb,if_neg (by decide)] at h2
     exact flNode_void g s hs n deep p fin o w h A T E' g2 hne hZ r h1 hb h2
    | true=>
     rw[hb,if_pos rfl] at h2
     rcases h2 with ⟨q,c,h3,rfl⟩|⟨y,h3,rfl⟩
     ·exact flNode_props w0 hEv g hg0 s hs n col hcol deep p fin _ w hd h hB A T E' g2 hne hZ r h1 hb _ h3 rfl
     ·exact flNode_props w0 hEv g hg0 s hs n col hcol deep p fin _ w hd h hB A T E' g2 hne hZ r h1 hb _ h3 rfl
 ·rw[if_pos hC,Int.toNat_natCast] at ho
  exact flNode_fault g s hs n deep p fin o w h A T E' C g2 hC hZ ho
end Go.Proofs.YtncngeamdechmaaGreatDoor
