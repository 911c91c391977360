/- Parts of the proof, put together from smaller texts (blanks that Lean does not want are struck). Conditions: those that each theorem writes out. -/
import Derived.Test.YtncngeamdechmaaGreatDoorZ27
import Derived.Test.YtncngeamdechmaaGreatDoorZ28
namespace Go.Proofs.YtncngeamdechmaaGreatDoor
open Go.RowKit
def blkV (b:Nat):Value:=.slice (some ⟨b,0,none⟩) 0 0
structure FndM (g fb:Nat) (a:Int) (w w':World) (vs:List Value) (v:Value) (lead:Coms) (ks:List NT) (lv:Value) (kb m cap:Nat) (arr:Array Value) (R:Nat→Prop):Prop where
 cells:w'.heap[fb]?=some (.cells #[.int .i64 a,lv,.slice (some ⟨kb,0,none⟩) m cap] 55 (0,0))
 lead:HasV 2 w' lv lead.length (comV lead)
 kids:w'.heap[kb]?=some (.cells arr 30 (0,0))
 len:m=ks.length∧m≤cap∧cap≤maxLen∧m*12≤arr.size
 nodes:IsKL R w' (arr.toList.take (m*12)) ks
 new:w.heap.size≤kb∧v.ownBlock≠some kb∧lv.ownBlock≠some kb
 leadN:NewV w.heap.size vs lv∧lv.ownBlock≠some g∧lv.ownBlock≠some fb∧∀ k,lv.ownBlock=some k→v.ownBlock≠some k
 own:∀ k,R k→k<w'.heap.size∧w.heap.size≤k∧k≠kb∧v.ownBlock≠some k∧lv.ownBlock≠some k
def FldPost (g:Nat) (s:ByteArray) (n:Int) (fb:Nat) (a:Int) (w:World) (vs:List Value) (o:Rd (Coms × List NT × Rst)) (e:Ending) (w':World):Prop:=
 ∃ c r v,e=.returned (.int .i64 c)∧RSb g s n r v w'∧NewV w.heap.size vs v∧Keep (Lv w.heap.size g vs) w w'∧v.ownBlock≠some fb∧match o with
  | .bad q k=>c=k∧c≠0∧r.at'=q
  | .ok y=>c=0∧r=y.2.2∧WFr s r∧(∀ x∈y.2.1.head?,x.h.lead.length≤40000)∧∃ lv kb m cap arr R,FndM g fb a w w' vs v y.1 y.2.1 lv kb m cap arr R
def fldO (X:Coms) (k:NT):Rd (NT × Rst)→Rd (Coms × List NT × Rst)
 | .ok y=>.ok (X,[k,y.1],y.2)
 | .bad q c=>.bad q c
theorem IsN.frame' {R R':Nat→Prop} {w:World} {t:NT} {cs:List Value} (h:IsN R w t cs) (hR:∀ b,R b→R' b):IsN R' w t cs:=IsN.frame (fun b hb=>⟨hR b hb,rfl⟩) t cs h
set_option maxRecDepth 100000 in
set_option maxHeartbeats 3200000 in
theorem flField_qbad (g:Nat) (s:ByteArray) (hs:s.size≤10000) (n:Int) (deep:Nat) (p fin fb:Nat) (a:Int) (lv:Value) (lead:Coms) (o:Rd (Coms × List NT × Rst)) (w:World) (h:RS g s n ⟨[],false,fin,p⟩ (.slice none 0 0) w) (hF:w.heap[fb]?=some (.cells #[.int .i64 a,lv,.slice none 0 0] 55 (0,0))) (hL:HasV 2 w lv lead.length (comV lead)) (hlg:lv.ownBlock≠some g) (hlf:lv.ownBlock≠some fb) (hfg:fb≠g) (hq:queryB s p=true) (q:Nat) (c0:Int) (ho1:skipP s n (fresh (p+1)) (.bad q c0)) (ho:o=.bad q c0) :
  Calls Tryz.prog 17 #[.pointer (some ⟨g,0,none⟩),.pointer (some ⟨fb,0,none⟩),.int .i64 (deep:Int)] w fun e w'=>FldPost g s n fb a w [lv,blkV fb] o e w':=by
 subst ho
 have hg:=h.cells.lt
 have hwf:=h.ok
 have hfb:fb<w.heap.size:=(Array.getElem?_eq_some_iff.1 hF).1
 obtain ⟨al,cl,rfl⟩:=hL.form
 have CQ:=flQuery_is true g s n p (fin:Int) (.slice none 0 0) false w h.cells (by omega) hq
 have CE:∀ W,Calls Tryz.prog 30 #[] W fun e w'=>e=.returned (.agg #[.int .i64 1,.int .i64 1,.int .i64 (-1),.int .i64 0,.string ⟨#[]⟩,.string ⟨#[]⟩,.string ⟨#[]⟩,.slice none 0 0,.slice none 0 0,.slice none 0 0,.bool false,.string ⟨#[]⟩])∧Below W.heap.size W w':=fun W=>flEmpty_is W
 go_enter Tryz.func17,Tryz.ntmps17
 go_upto_region 2 with (first
  | (go_at_call 24;refine CQ.mono ?_;rintro e w1 ⟨rfl,j1,rfl⟩)
  | (go_at_call 30;refine (CE _).mono ?_;rintro e w2 ⟨rfl,b2⟩))
 have b02:Below w.heap.size w w2:=(below_drewN (Below.refl _ _) j1:Below w.heap.size w (w.drewN j1)).trans b2
 have sz2:=b02.size
 obtain ⟨w3,hw3⟩:∃ w3,w3=w2.alloc (.cells #[.int .i64 1,.int .i64 1,.int .i64 (-1),.int .i64 0,.string ⟨#[]⟩,.string ⟨#[]⟩,.string ⟨#[]⟩,.slice none 0 0,.slice none 0 0,.slice none 0 0,.bool false,.string ⟨#[]⟩] 30):=⟨_,rfl⟩
 have z3:w3.heap.size=w2.heap.size+1:=by rw[hw3];simp
 have b3:Below w2.heap.size w2 w3:=by rw[hw3];exact (Below.refl _ _).alloc (Nat.le_refl _) _
 have r3:w3.heap[w2.heap.size]?=some (.cells #[.int .i64 1,.int .i64 1,.int .i64 (-1),.int .i64 0,.string ⟨#[]⟩,.string ⟨#[]⟩,.string ⟨#[]⟩,.slice none 0 0,.slice none 0 0,.slice none 0 0,.bool false,.string ⟨#[]⟩] 30 (0,0)):=by rw[hw3];exact heap_alloc_new w2 _
 have b03:Below w.heap.size w w3:=b02.trans (b3.mono sz2)
 rw[←hw3]
 clear hw3
 obtain ⟨nb,hnb⟩:∃ nb,nb=w2.heap.size:=⟨_,rfl⟩
 rw[←hnb] at r3 z3 ⊢
 have hnb0:w.heap.size≤nb:=by omega
 have R3:=h.below b03 (Nat.le_refl _)
 have F3:=(b03.block fb hfb).trans hF
 have L3:=hL.below b03 (Nat.le_refl _)
 have K3:Keep (Lv w.heap.size g [.slice al lead.length cl,blkV fb]) w w3:=Keep.of b03 (fun k hk=>hk.1)
 have hownL:=hL.own
 have HNB:=Lib.hid hnb
 clear hnb b02 b3 b2 CE CQ b03 hF h hL
 have hlt:=query_lt hq
 have c3:=R3.cells.cell
 go_upto_region 5 with (first
  | (go_at_call 18;refine (flPass_is g s n _ _ ((p:Int)+1) (.slice none 0 0) false _ R3.cells).mono ?_;rintro e w4 ⟨rfl,h4,g4,z4⟩;have R4:RS g s n (fresh (p+1)) (.slice none 0 0) w4:=RS.bare (by rw[show ((p+1:Nat):Int)=(p:Int)+1 by omega];exact h4) (Nat.le_refl _) hlt;have K4:Keep (Lv w.heap.size g [.slice al lead.length cl,blkV fb]) w w4:=K3.trans (Q:=fun k=>k<w3.heap.size∧k≠g) ⟨g4.os,g4.tape,g4.output,by omega,fun k hk=>g4.block k hk.1 (fun e=>hk.2 (by injection e))⟩ (fun k hk=>⟨by have:=hk.1;omega,hk.2.1⟩);have F4:=(g4.block fb (by omega) (fun e=>hfg (by injection e))).trans F3;have L4:=L3.grown g4 (.inr hlg);have r4:=(g4.block nb (by omega) (fun e=>by injection e with e;omega)).trans r3)
  | (go_at_call 19;refine (flSkip_of g s n (fresh (p+1)) (.slice none 0 0) (.bad q c0) _ R4 hs ho1).mono ?_;rintro e w5 ⟨c5,v5,r5,rfl,R5,n5,K45,res5⟩;obtain ⟨e5,hc5,hq5⟩:=res5;have HE5:=Lib.hid e5;clear e5;have hcb:(c5 != 0)=true:=by rw[bne,Bool.not_eq_eq_eq_not,Bool.not_true,beq_eq_false_iff_ne];exact hc5))
 have hm45:∀ k,k<w4.heap.size→k≠g→w5.heap[k]?=w4.heap[k]?:=fun k hk hne=>K45.block k ⟨hk,hne,fun u hu e=>by rw[List.mem_singleton] at hu;subst hu;cases e⟩
 have sz45:=K45.size
 have V5:∀ k,v5.ownBlock=some k→w4.heap.size≤k∧k<w5.heap.size:=fun k hk=>⟨(by rcases n5 k hk with h|⟨u,hu,h⟩;exact h;rw[List.mem_singleton] at hu;subst hu;cases h),R5.has.own k hk⟩
 have K5:Keep (Lv w.heap.size g [.slice al lead.length cl,blkV fb]) w w5:=K4.trans (Q:=fun k=>k<w4.heap.size∧k≠g) ⟨K45.os,K45.tape,K45.output,sz45,fun k hk=>hm45 k hk.1 hk.2⟩ (fun k hk=>⟨by have:=hk.1;omega,hk.2.1⟩)
 have N5:NewV w.heap.size [.slice al lead.length cl,blkV fb] v5:=fun k hk=>.inl (by have:=V5 k hk;omega)
 have HR:=Lib.hid (And.intro R5 (And.intro N5 K5))
 clear R5 N5 K5 K45 K4 K3 R4 R3
 go_wp2
 go_ret
 obtain ⟨R5,N5,K5⟩:=HR.out
 exact ⟨c5,r5,v5,rfl,R5.b,N5,K5,fun e=>by have:=V5 fb e;omega,HE5.out,hc5,hq5⟩
set_option maxRecDepth 100000 in
set_option maxHeartbeats 3200000 in
theorem flField_qsign (w0:World) (hEv:Env w0) (g:Nat) (hg0:w0.heap.size≤g) (s:ByteArray) (hs:s.size≤10000) (n:Int) (col:Nat→Nat→Rd (NT × Nat)→Prop) (hcol:CollC w0 g s n col) (deep:Nat) (hd:deep≤90) (p fin fb:Nat) (a:Int) (lv:Value) (lead:Coms) (o:Rd (Coms × List NT × Rst)) (w:World) (h:RS g s n ⟨[],false,fin,p⟩ (.slice none 0 0) w) (hF:w.heap[fb]?=some (.cells #[.int .i64 a,lv,.slice none 0 0] 55 (0,0))) (hL:HasV 2 w lv lead.length (comV lead)) (hlg:lv.ownBlock≠some g) (hlf:lv.ownBlock≠some fb) (hfg:fb≠g) (hll:lead.length≤20000) (hB:Bs w0 w [lv,blkV fb]) (hq:queryB s p=true) (b:Rst) (ho1:skipP s n (fresh (p+1)) (.ok b)) (hsg:signB s b.at' false=true) (oV:Rd (NT × Rst)) (hoV:valueP s n col voidN deep ⟨[],false,b.fin,b.at'⟩ oV) (hov:o=fldO (lead++b.l) voidN oV) :
  Calls Tryz.prog 17 #[.pointer (some ⟨g,0,none⟩),.pointer (some ⟨fb,0,none⟩),.int .i64 (deep:Int)] w fun e w'=>FldPost g s n fb a w [lv,blkV fb] o e w':=by
 have hg:=h.cells.lt
 have hwf:=h.ok
 have hfb:fb<w.heap.size:=(Array.getElem?_eq_some_iff.1 hF).1
 obtain ⟨al,cl,rfl⟩:=hL.form
 have CQ:=flQuery_is true g s n p (fin:Int) (.slice none 0 0) false w h.cells (by omega) hq
 have CE:∀ W,Calls Tryz.prog 30 #[] W fun e w'=>e=.returned (.agg #[.int .i64 1,.int .i64 1,.int .i64 (-1),.int .i64 0,.string ⟨#[]⟩,.string ⟨#[]⟩,.string ⟨#[]⟩,.slice none 0 0,.slice none 0 0,.slice none 0 0,.bool false,.string ⟨#[]⟩])∧Below W.heap.size W w':=fun W=>flEmpty_is W
 go_enter Tryz.func17,Tryz.ntmps17
 go_upto_region 2 with (first
  | (go_at_call 24;refine CQ.mono ?_;rintro e w1 ⟨rfl,j1,rfl⟩)
  | (go_at_call 30;refine (CE _).mono ?_;rintro e w2 ⟨rfl,b2⟩))
 have b02:Below w.heap.size w w2:=(below_drewN (Below.refl _ _) j1:Below w.heap.size w (w.drewN j1)).trans b2
 have sz2:=b02.size
 obtain ⟨w3,hw3⟩:∃ w3,w3=w2.alloc (.cells #[.int .i64 1,.int .i64 1,.int .i64 (-1),.int .i64 0,.string ⟨#[]⟩,.string ⟨#[]⟩,.string ⟨#[]⟩,.slice none 0 0,.slice none 0 0,.slice none 0 0,.bool false,.string ⟨#[]⟩] 30):=⟨_,rfl⟩
 have z3:w3.heap.size=w2.heap.size+1:=by rw[hw3];simp
 have b3:Below w2.heap.size w2 w3:=by rw[hw3];exact (Below.refl _ _).alloc (Nat.le_refl _) _
 have r3:w3.heap[w2.heap.size]?=some (.cells #[.int .i64 1,.int .i64 1,.int .i64 (-1),.int .i64 0,.string ⟨#[]⟩,.string ⟨#[]⟩,.string ⟨#[]⟩,.slice none 0 0,.slice none 0 0,.slice none 0 0,.bool false,.string ⟨#[]⟩] 30 (0,0)):=by rw[hw3];exact heap_alloc_new w2 _
 have b03:Below w.heap.size w w3:=b02.trans (b3.mono sz2)
 rw[←hw3]
 clear hw3
 obtain ⟨nb,hnb⟩:∃ nb,nb=w2.heap.size:=⟨_,rfl⟩
 rw[←hnb] at r3 z3 ⊢
 have hnb0:w.heap.size≤nb:=by omega
 have R3:=h.below b03 (Nat.le_refl _)
 have F3:=(b03.block fb hfb).trans hF
 have L3:=hL.below b03 (Nat.le_refl _)
 have K3:Keep (Lv w.heap.size g [.slice al lead.length cl,blkV fb]) w w3:=Keep.of b03 (fun k hk=>hk.1)
 have hownL:=hL.own
 have HNB:=Lib.hid hnb
 clear hnb b02 b3 b2 CE CQ b03 hF h hL
 have hlt:=query_lt hq
 have c3:=R3.cells.cell
 go_upto_region 5 with (first
  | (go_at_call 18;refine (flPass_is g s n _ _ ((p:Int)+1) (.slice none 0 0) false _ R3.cells).mono ?_;rintro e w4 ⟨rfl,h4,g4,z4⟩;have R4:RS g s n (fresh (p+1)) (.slice none 0 0) w4:=RS.bare (by rw[show ((p+1:Nat):Int)=(p:Int)+1 by omega];exact h4) (Nat.le_refl _) hlt;have K4:Keep (Lv w.heap.size g [.slice al lead.length cl,blkV fb]) w w4:=K3.trans (Q:=fun k=>k<w3.heap.size∧k≠g) ⟨g4.os,g4.tape,g4.output,by omega,fun k hk=>g4.block k hk.1 (fun e=>hk.2 (by injection e))⟩ (fun k hk=>⟨by have:=hk.1;omega,hk.2.1⟩);have F4:=(g4.block fb (by omega) (fun e=>hfg (by injection e))).trans F3;have L4:=L3.grown g4 (.inr hlg);have r4:=(g4.block nb (by omega) (fun e=>by injection e with e;omega)).trans r3)
  | (go_at_call 19;refine (flSkip_of g s n (fresh (p+1)) (.slice none 0 0) (.ok b) _ R4 hs ho1).mono ?_;rintro e w5 ⟨c5,v5,r5,rfl,R5,n5,K45,res5⟩;obtain ⟨rfl,rfl⟩:=res5))
 have hm45:∀ k,k<w4.heap.size→k≠g→w5.heap[k]?=w4.heap[k]?:=fun k hk hne=>K45.block k ⟨hk,hne,fun u hu e=>by rw[List.mem_singleton] at hu;subst hu;cases e⟩
 have sz45:=K45.size
 have V5:∀ k,v5.ownBlock=some k→w4.heap.size≤k∧k<w5.heap.size:=fun k hk=>⟨(by rcases n5 k hk with h|⟨u,hu,h⟩;exact h;rw[List.mem_singleton] at hu;subst hu;cases h),R5.has.own k hk⟩
 have K5:Keep (Lv w.heap.size g [.slice al lead.length cl,blkV fb]) w w5:=K4.trans (Q:=fun k=>k<w4.heap.size∧k≠g) ⟨K45.os,K45.tape,K45.output,sz45,fun k hk=>hm45 k hk.1 hk.2⟩ (fun k hk=>⟨by have:=hk.1;omega,hk.2.1⟩)
 have N5:NewV w.heap.size [.slice al lead.length cl,blkV fb] v5:=fun k hk=>.inl (by have:=V5 k hk;omega)
 obtain ⟨a5,c5',rfl⟩:=R5.has.form
 have A5:=R5.cells
 have wf5:=R5.ok
 have H5:=R5.has
 have ap5:=R5.apart
 have L5:HasV 2 w5 (.slice al lead.length cl) lead.length (comV lead):=L4.keep fun k hk hlt=>hm45 k hlt (fun e=>hlg (by rw[hk,e]))
 have F5:=(hm45 fb (by omega) hfg).trans F4
 have r5':=(hm45 nb (by omega) (by omega)).trans r4
 have hbl:r5.l.length≤10000:=by have:=wf5.few;have:=wf5.top;omega
 have HL5:=Lib.hid L5
 have HH5:=Lib.hid H5
 have HK5:=Lib.hid (And.intro K5 hm45)
 have hown5:=H5.own
 have K5sz:=K5.size
 obtain ⟨X,hX⟩:∃ X,lead++r5.l=X:=⟨_,rfl⟩
 have HX:=Lib.hid hX
 have cf5:∀ j,w5.cell? ⟨fb,j,none⟩=(#[.int .i64 a,.slice al lead.length cl,.slice none 0 0]:Array Value)[j]?:=fun j=>cell_of_row w5 _ j _ _ _ F5
 have ff5:∀ j,w5.frozen? ⟨fb,j,none⟩=false:=fun j=>frozen_of_row w5 _ j _ _ F5
 clear hX R5 K5 K45 K4 K3 R4 R3 n5 L5 L4 L3 H5 F3 F4 r3 r4 hm45 N5
 go_upto_region 7 with fail
 go_cut [36] (fun v36 wA=>∃ lv2,RS g s n ⟨[],false,r5.fin,r5.at'⟩ (.slice none 0 0) wA∧wA.heap[fb]?=some (.cells #[.int .i64 a,lv2,.slice none 0 0] 55 (0,0))∧HasV 2 wA lv2 X.length (comV X)∧(lv2.ownBlock=(Value.slice al lead.length cl).ownBlock∨∃ k,lv2.ownBlock=some k∧w5.heap.size≤k)∧Keep (Lv w.heap.size g [.slice al lead.length cl,blkV fb]) w wA∧wA.heap[nb]?=some (.cells #[.int .i64 1,.int .i64 1,.int .i64 (-1),.int .i64 0,.string ⟨#[]⟩,.string ⟨#[]⟩,.string ⟨#[]⟩,.slice none 0 0,.slice none 0 0,.slice none 0 0,.bool false,.string ⟨#[]⟩] 30 (0,0))∧w5.heap.size≤wA.heap.size)
 case first=>
  go_region_law (first
   | (go_simp;go_at_call 20;refine (flTake_is g s n _ _ a5 r5.l.length c5' r5.same w5.drew A5).mono ?_;rintro e w6 ⟨rfl,h6,g6,z6⟩;have cf6:w6.cell? ⟨fb,1,none⟩=some (.slice al lead.length cl):=(World.cell?_of_block (a:=⟨fb,1,none⟩) (g6.block fb (by show fb<w5.heap.size;omega) (fun e=>hfg (by injection e)))).trans (cf5 1))
   | (refine step_appendH rfl _ _ rfl _ (.slice al lead.length cl) (.slice a5 r5.l.length c5') lead r5.l rfl rfl ((HL5.out.keep (w':=w5.drew) (fun _ _ _=>rfl)).grown g6 (.inr hlg)) ((HH5.out.keep (w':=w5.drew) (fun _ _ _=>rfl)).grown g6 (.inr ap5)).toComs (by omega) ?_;intro v7 w7 o7 g7 n7;rw[HX.out] at o7;obtain ⟨a7,c7,rfl⟩:=o7.form;have F7:=(g7.block fb (by rw[z6];show fb<w5.heap.size;omega) (fun e=>hlf e.symm)).trans ((g6.block fb (by show fb<w5.heap.size;omega) (fun e=>hfg (by injection e))).trans F5);have cf7:∀ j,w7.cell? ⟨fb,j,none⟩=(#[.int .i64 a,.slice al lead.length cl,.slice none 0 0]:Array Value)[j]?:=fun j=>cell_of_row w7 _ j _ _ _ F7;have ff7:∀ j,w7.frozen? ⟨fb,j,none⟩=false:=fun j=>frozen_of_row w7 _ j _ _ F7))
  all_goals
   have G6:w5.grownBy w6 (some g):=⟨g6.os,g6.tape,g6.output,g6.size,g6.block⟩
   have Z6:w6.heap.size=w5.heap.size:=z6
   have HH:=Lib.hid (And.intro G6 (And.intro g7 (And.intro n7 (And.intro o7 (And.intro F7 h6)))))
   clear g6 z6 G6 g7 n7 o7 h6 F7 cf6 cf7 ff7
   go_wp2
   go_meet
   case rel=>
    obtain ⟨G6,g7,n7,o7,F7,h6⟩:=HH.out
    obtain ⟨K5,hm45⟩:=HK5.out
    have sz7:=g7.size
    have hs:∀ k,k≠fb→(w7.setCell ⟨fb,1,none⟩ (.slice a7 X.length c7)).heap[k]?=w7.heap[k]?:=fun k hk=>heap_setCell_other _ _ _ _ hk
    have n7':∀ k,(Value.slice a7 X.length c7).ownBlock=some k→(Value.slice al lead.length cl).ownBlock=some k∨k=w6.heap.size:=fun k hk=>(by rcases n7 with e|e;exact .inl (e.symm.trans hk);rw[e] at hk;injection hk with hk;exact .inr hk.symm)
    refine ⟨.slice a7 X.length c7,RS.bare ((hs g (fun e=>hfg e.symm)).trans (h6.grown g7 hlg)) wf5.le wf5.top,heap_setCell_same _ _ 1 _ _ _ F7,o7.keep (fun k hk _=>hs k (by rcases n7' k hk with e|e;exact fun e2=>hlf (by rw[e,e2]);omega)),?_,?_,?_,by simp[World.setCell];omega⟩
    ·rcases n7 with e|e
     ·exact .inl e
     ·exact .inr ⟨_,e,by omega⟩
    ·exact K5.trans (Q:=fun k=>k<w.heap.size∧k≠g∧k≠fb∧(Value.slice al lead.length cl).ownBlock≠some k) ⟨g7.os.trans G6.os,g7.tape.trans G6.tape,g7.output.trans G6.output,by simp[World.setCell];omega,fun k hk=>(hs k hk.2.2.1).trans ((g7.block k (by have:=hk.1;omega) (fun e=>hk.2.2.2 e.symm)).trans (G6.block k (by have:=hk.1;omega) (fun e=>hk.2.1 (by injection e))))⟩ (fun k hk=>⟨hk.1,hk.2.1,fun e=>hk.2.2 (blkV fb) (by simp) (by rw[e];rfl),hk.2.2 _ (by simp)⟩)
    ·rw[hs nb (by omega),g7.block nb (by omega) (fun e=>by have:=hownL nb e.symm;omega),G6.block nb (by omega) (fun e=>by injection e with e;omega)]
     exact r5'
 case rest=>
  rename World=>wA
  obtain ⟨lvA,RSa,Fa,La,Oa,Ka,ra,szA⟩:=hcut
  have Na:NewV w.heap.size [.slice al lead.length cl,blkV fb] lvA:=fun k hk=>(by rcases Oa with e|⟨k2,e,h2⟩;exact .inr ⟨_,by simp,e.symm.trans hk⟩;rw[e] at hk;injection hk with hk;exact .inl (by have:=K5sz;omega))
  have hnA:nb<wA.heap.size:=by omega
  have gA:lvA.ownBlock≠some g:=(by rcases Oa with e|⟨k,e,h⟩;rw[e];exact hlg;rw[e];intro e2;injection e2 with e2;omega)
  have fA:lvA.ownBlock≠some fb:=(by rcases Oa with e|⟨k,e,h⟩;rw[e];exact hlf;rw[e];intro e2;injection e2 with e2;omega)
  have kA:lvA.ownBlock≠some nb:=(by rcases Oa with e|⟨k,e,h⟩;rw[e];intro e2;have:=hownL nb e2;omega;rw[e];intro e2;injection e2 with e2;omega)
  have hownA:=La.own
  have hfA:fb<wA.heap.size:=(Array.getElem?_eq_some_iff.1 Fa).1
  have hgA:=RSa.cells.lt
  have qnA:∀ j,wA.cell? ⟨nb,j,none⟩=(#[.int .i64 1,.int .i64 1,.int .i64 (-1),.int .i64 0,.string ⟨#[]⟩,.string ⟨#[]⟩,.string ⟨#[]⟩,.slice none 0 0,.slice none 0 0,.slice none 0 0,.bool false,.string ⟨#[]⟩]:Array Value)[j]?:=fun j=>cell_of_row wA _ j _ _ _ ra
  have CLA:=flColon_x true g s n r5.at' (r5.fin:Int) (.slice none 0 0) false 1 1 (-1) 0 ⟨#[]⟩ ⟨#[]⟩ ⟨#[]⟩ none 0 0 none 0 0 none 0 0 false ⟨#[]⟩ wA RSa.cells (by omega) (by rw[show decide ((1:Int)=3∨(1:Int)=4∨(1:Int)=2∨(1:Int)=3)=false by decide];exact hsg)
  go_wp2_with fail
  refine CLA.mono ?_
  rintro e wB ⟨rfl,bB⟩
  have szB:=bB.size
  have RSb:=RSa.below bB (Nat.le_refl _)
  have Fb:=(bB.block fb hfA).trans Fa
  have Lb:=La.below bB (Nat.le_refl _)
  have rb:=(bB.block nb hnA).trans ra
  have Kb:Keep (Lv w.heap.size g [.slice al lead.length cl,blkV fb]) w wB:=Ka.trans (Keep.of bB (fun k hk=>hk)) (fun k hk=>Nat.lt_of_lt_of_le hk.1 Ka.size)
  have szKa:=Ka.size
  clear RSa Fa La ra Ka qnA CLA
  obtain ⟨wC,hwC⟩:∃ wC,wC=wB:=⟨_,rfl⟩
  have RSc:=RSb
  have Fc:=Fb
  have rc:=rb
  have Lc:=Lb
  have Kc:=Kb
  have szC:wC.heap.size=wB.heap.size:=by rw[hwC]
  rw[←hwC] at RSc Fc rc Lc Kc ⊢
  clear hwC RSb Fb rb Lb Kb
  have NC:NewV w.heap.size [.slice al lead.length cl,blkV fb] (.slice none 0 0):=NewV.none
  obtain ⟨vC,hvC⟩:∃ vC:Value,vC=.slice none 0 0:=⟨_,rfl⟩
  have hnil:∀ k,vC.ownBlock≠some k:=fun k e=>by rw[hvC] at e;cases e
  rw[←hvC] at RSc NC
  have hwCn:∀ k,vC.ownBlock=some k→k≠nb:=fun k e=>absurd e (hnil k)
  have hCf:∀ k,vC.ownBlock=some k→k≠fb:=fun k e=>absurd e (hnil k)
  have hCl:∀ k,vC.ownBlock=some k→lvA.ownBlock≠some k:=fun k e=>absurd e (hnil k)
  have hCw:∀ k,vC.ownBlock=some k→w.heap.size≤k:=fun k e=>absurd e (hnil k)
  obtain ⟨xk,hxk⟩:∃ xk,xk=voidN:=⟨_,rfl⟩
  have hkey:nearN xk=decide ((1:Int)=3∨(1:Int)=4∨(1:Int)=2∨(1:Int)=3):=by rw[hxk];rfl
  rw[←hxk] at hoV
  obtain ⟨Rk,hRke⟩:∃ Rk:Nat→Prop,Rk=fun _=>False:=⟨_,rfl⟩
  have hRk:∀ k,Rk k→k<wC.heap.size∧w.heap.size≤k∧k≠g∧k≠fb∧vC.ownBlock≠some k∧lvA.ownBlock≠some k:=fun k hk=>by rw[hRke] at hk;exact hk.elim
  have Nk:IsN Rk wC xk [.int .i64 1,.int .i64 1,.int .i64 (-1),.int .i64 0,.string ⟨#[]⟩,.string ⟨#[]⟩,.string ⟨#[]⟩,.slice none 0 0,.slice none 0 0,.slice none 0 0,.bool false,.string ⟨#[]⟩]:=by rw[hxk];exact IsN.shut (ComsR.nil _ _) (ComsR.nil _ _) (NodesR.nil _ _)
  have hlk:xk.h.lead.length≤40000:=by rw[hxk];exact Nat.zero_le _
  have hov2:o=fldO X xk oV:=by
   rw[hxk,←HX.out]
   exact hov
  clear hxk hRke hvC hnil hov
  have qnC:∀ j,wC.cell? ⟨nb,j,none⟩=(#[.int .i64 1,.int .i64 1,.int .i64 (-1),.int .i64 0,.string ⟨#[]⟩,.string ⟨#[]⟩,.string ⟨#[]⟩,.slice none 0 0,.slice none 0 0,.slice none 0 0,.bool false,.string ⟨#[]⟩]:Array Value)[j]?:=fun j=>cell_of_row wC _ j _ _ _ rc
  have CV:=flValue_is w0 hEv g hg0 s hs n col hcol deep (by omega) ⟨[],false,r5.fin,r5.at'⟩ vC 1 1 (-1) 0 ⟨#[]⟩ ⟨#[]⟩ ⟨#[]⟩ none 0 0 none 0 0 none 0 0 false ⟨#[]⟩ oV wC RSc (hB.next hg0 Kc (one_mem NC)) xk hkey hoV
  have hownC:=RSc.has.own
  have hC5:=hwCn
  have szKc:=Kc.size
  go_upto_region 17 with (go_at_call 29;refine CV.mono ?_;rintro e wD ⟨cs2,c2,rfl,x2,r2,v2,R2,M2⟩;have rD:=(M2.keep.block nb ⟨by omega,by omega,fun u hu e=>by rw[List.mem_singleton] at hu;subst hu;exact hC5 nb e rfl⟩).trans rc;have FD:=(M2.keep.block fb ⟨by omega,hfg,fun u hu e=>by rw[List.mem_singleton] at hu;subst hu;exact hCf fb e rfl⟩).trans Fc;obtain ⟨y0,y1,y2,y3,y4,y5,y6,ya,yb,yc,yd,ye,yf,yg,yh,yi,y7,y8,rfl⟩:=M2.node.cells12;have HM2:=Lib.hid M2;clear M2)
  obtain ⟨wE,hwE⟩:∃ wE,wE=wD.alloc (.cells #[.int .i64 y0,.int .i64 y1,.int .i64 y2,.int .i64 y3,.string y4,.string y5,.string y6,.slice ya yb yc,.slice yd ye yf,.slice yg yh yi,.bool y7,.string y8] 30):=⟨_,rfl⟩
  have szD:=HM2.out.keep.size
  have zE:wE.heap.size=wD.heap.size+1:=by rw[hwE];simp
  have bE:Below wD.heap.size wD wE:=by rw[hwE];exact (Below.refl _ _).alloc (Nat.le_refl _) _
  have rvE:wE.heap[wD.heap.size]?=some (.cells #[.int .i64 y0,.int .i64 y1,.int .i64 y2,.int .i64 y3,.string y4,.string y5,.string y6,.slice ya yb yc,.slice yd ye yf,.slice yg yh yi,.bool y7,.string y8] 30 (0,0)):=by rw[hwE];exact heap_alloc_new wD _
  have rE:=(bE.block nb (by omega)).trans rD
  have FE:=(bE.block fb (by omega)).trans FD
  rw[←hwE]
  clear hwE rD FD qnC
  have qnE:∀ j,wE.cell? ⟨nb,j,none⟩=(#[.int .i64 1,.int .i64 1,.int .i64 (-1),.int .i64 0,.string ⟨#[]⟩,.string ⟨#[]⟩,.string ⟨#[]⟩,.slice none 0 0,.slice none 0 0,.slice none 0 0,.bool false,.string ⟨#[]⟩]:Array Value)[j]?:=fun j=>cell_of_row wE _ j _ _ _ rE
  have qvE:∀ j,wE.cell? ⟨wD.heap.size,j,none⟩=(#[.int .i64 y0,.int .i64 y1,.int .i64 y2,.int .i64 y3,.string y4,.string y5,.string y6,.slice ya yb yc,.slice yd ye yf,.slice yg yh yi,.bool y7,.string y8]:Array Value)[j]?:=fun j=>cell_of_row wE _ j _ _ _ rvE
  have qfF:∀ ob j,(wE.alloc ob).cell? ⟨fb,j,none⟩=(#[.int .i64 a,lvA,.slice none 0 0]:Array Value)[j]?:=fun ob j=>cell_of_row _ _ j _ _ _ ((heap_alloc_old wE ob (show fb<wE.heap.size by omega)).trans FE)
  have ffF:∀ ob j,(wE.alloc ob).frozen? ⟨fb,j,none⟩=false:=fun ob j=>frozen_of_row _ _ j _ _ ((heap_alloc_old wE ob (show fb<wE.heap.size by omega)).trans FE)
  have HC:=Lib.hid (And.intro Lc (And.intro Kc RSc))
  clear CV Lc Kc RSc rc Fc
  go_wp2
  go_ret
  obtain ⟨Lc,Kc,RSc⟩:=HC.out
  have M2:=HM2.out
  obtain ⟨wF,hwF⟩:∃ wF,wF=(wE.alloc (.cells #[.int .i64 1,.int .i64 1,.int .i64 (-1),.int .i64 0,.string ⟨#[]⟩,.string ⟨#[]⟩,.string ⟨#[]⟩,.slice none 0 0,.slice none 0 0,.slice none 0 0,.bool false,.string ⟨#[]⟩,.int .i64 y0,.int .i64 y1,.int .i64 y2,.int .i64 y3,.string y4,.string y5,.string y6,.slice ya yb yc,.slice yd ye yf,.slice yg yh yi,.bool y7,.string y8] 30)).setCell ⟨fb,2,none⟩ (.slice (some ⟨wE.heap.size,0,none⟩) 2 2):=⟨_,rfl⟩
  have zF:wF.heap.size=wE.heap.size+1:=by rw[hwF];simp[World.setCell]
  have sF:∀ k,k<wE.heap.size→k≠fb→wF.heap[k]?=wE.heap[k]?:=fun k h1 h2=>by rw[hwF,heap_setCell_other _ _ _ _ h2];exact heap_alloc_old _ _ h1
  have oF:wF.os=wE.os∧wF.tape=wE.tape∧wF.output=wE.output:=by rw[hwF];exact ⟨rfl,rfl,rfl⟩
  have rF:wF.heap[wE.heap.size]?=some (.cells #[.int .i64 1,.int .i64 1,.int .i64 (-1),.int .i64 0,.string ⟨#[]⟩,.string ⟨#[]⟩,.string ⟨#[]⟩,.slice none 0 0,.slice none 0 0,.slice none 0 0,.bool false,.string ⟨#[]⟩,.int .i64 y0,.int .i64 y1,.int .i64 y2,.int .i64 y3,.string y4,.string y5,.string y6,.slice ya yb yc,.slice yd ye yf,.slice yg yh yi,.bool y7,.string y8] 30 (0,0)):=by rw[hwF,heap_setCell_other _ _ _ _ (show wE.heap.size≠fb by omega)];exact heap_alloc_new wE _
  have FF:wF.heap[fb]?=some (.cells #[.int .i64 a,lvA,.slice (some ⟨wE.heap.size,0,none⟩) 2 2] 55 (0,0)):=by rw[hwF];exact heap_setCell_same _ _ 2 _ _ _ ((heap_alloc_old _ _ (show fb<wE.heap.size by omega)).trans FE)
  first|rw[←hwF] | rw[show wD.heap.size+1=wE.heap.size from zE.symm,←hwF] | (rw[zE] at hwF;rw[←hwF])
  have far:∀ k,k<wD.heap.size→k≠fb→wF.heap[k]?=wD.heap[k]?:=fun k h1 h2=>(sF k (by omega) h2).trans (bE.block k h1)
  have hnew2:∀ k,v2.ownBlock=some k→wC.heap.size≤k∨vC.ownBlock=some k:=fun k hk=>(by rcases M2.new k hk with h|⟨u,hu,h⟩;exact .inl h;rw[List.mem_singleton] at hu;subst hu;exact .inr h)
  have hR2:∀ k,R2 k→wC.heap.size≤k∨vC.ownBlock=some k:=fun k hk=>(by rcases M2.own k hk with h|⟨u,hu,h⟩;exact .inl h;rw[List.mem_singleton] at hu;subst hu;exact .inr h)
  have hv2o:=M2.st.has.own
  have v2f:∀ k,v2.ownBlock=some k→k≠fb:=fun k hk=>(by rcases hnew2 k hk with h|h;omega;exact hCf k h)
  have RF:RSb g s n r2 v2 wF:=M2.st.keep (fun k hlt hk=>far k hlt (by rcases hk with rfl|hk;exact fun e=>hfg e.symm;exact v2f k hk))
  have LF:HasV 2 wF lvA X.length (comV X):=Lc.keep (fun k hk hlt=>(far k (by omega) (fun e=>fA (by rw[hk,e]))).trans (M2.keep.block k ⟨hlt,fun e=>gA (by rw[hk,e]),fun u hu e=>by rw[List.mem_singleton] at hu;subst hu;exact hCl k e hk⟩))
  have KF:Keep (Lv w.heap.size g [.slice al lead.length cl,blkV fb]) w wF:=(Kc.trans M2.keep (Lv.step Kc.size (one_mem NC))).trans (Q:=fun k=>k<w.heap.size∧k≠fb) ⟨oF.1.trans bE.os,oF.2.1.trans bE.tape,oF.2.2.trans bE.output,by omega,fun k hk=>far k (by have:=hk.1;omega) hk.2⟩ (fun k hk=>⟨hk.1,fun e=>hk.2.2 (blkV fb) (by simp) (by rw[e];rfl)⟩)
  have NF:NewV w.heap.size [.slice al lead.length cl,blkV fb] v2:=M2.new.trans Kc.size (one_mem NC)
  have N2:IsN R2 wF x2 [.int .i64 y0,.int .i64 y1,.int .i64 y2,.int .i64 y3,.string y4,.string y5,.string y6,.slice ya yb yc,.slice yd ye yf,.slice yg yh yi,.bool y7,.string y8]:=IsN.frame (fun b hb=>⟨hb,far b (M2.lt b hb) (by rcases hR2 b hb with h|h;omega;exact hCf b h)⟩) x2 _ M2.node
  have N1:IsN Rk wF xk [.int .i64 1,.int .i64 1,.int .i64 (-1),.int .i64 0,.string ⟨#[]⟩,.string ⟨#[]⟩,.string ⟨#[]⟩,.slice none 0 0,.slice none 0 0,.slice none 0 0,.bool false,.string ⟨#[]⟩]:=IsN.frame (fun b hb=>⟨hb,(far b (by have:=(hRk b hb).1;omega) (hRk b hb).2.2.2.1).trans (M2.keep.block b ⟨(hRk b hb).1,(hRk b hb).2.2.1,fun u hu e=>by rw[List.mem_singleton] at hu;subst hu;exact (hRk b hb).2.2.2.2.1 e⟩)⟩) xk _ Nk
  refine ⟨c2,r2,v2,rfl,RF,NF,KF,fun e=>v2f fb e rfl,?_⟩
  have hres:=M2.res
  rw[hov2]
  cases oV with
  | bad q k=>exact hres
  | ok y=>exact ⟨hres.1,(congrArg Prod.snd hres.2).symm,M2.wf _ rfl,(fun z hz=>by simp at hz;subst hz;exact hlk),by
   have hy:y.1=x2:=congrArg Prod.fst hres.2
   show ∃ lv kb m cap arr R,FndM g fb a w wF [.slice al lead.length cl,blkV fb] v2 X [xk,y.1] lv kb m cap arr R
   rw[hy]
   exact ⟨lvA,wE.heap.size,2,2,#[.int .i64 1,.int .i64 1,.int .i64 (-1),.int .i64 0,.string ⟨#[]⟩,.string ⟨#[]⟩,.string ⟨#[]⟩,.slice none 0 0,.slice none 0 0,.slice none 0 0,.bool false,.string ⟨#[]⟩,.int .i64 y0,.int .i64 y1,.int .i64 y2,.int .i64 y3,.string y4,.string y5,.string y6,.slice ya yb yc,.slice yd ye yf,.slice yg yh yi,.bool y7,.string y8],fun k=>Rk k∨R2 k,⟨FF,LF,rF,⟨rfl,Nat.le_refl _,by decide,Nat.le_refl _⟩,IsKL.two (N1.frame' (fun b hb=>.inl hb)) (N2.frame' (fun b hb=>.inr hb)),⟨by omega,fun e=>by have:=hv2o _ e;omega,fun e=>by have:=LF.own _ e;have:=hownA _ e;omega⟩,⟨Na,gA,fA,fun k hk e=>by rcases hnew2 k e with h|h;have:=hownA k hk;omega;exact hCl k h hk⟩,fun k hk=>by
    rcases hk with hk|hk
    ·obtain ⟨q1,q2,q3,q4,q5,q6⟩:=hRk k hk
     exact ⟨by omega,q2,by omega,fun e=>by rcases hnew2 k e with h|h;omega;exact q5 h,q6⟩
    ·have q1:=M2.lt k hk
     refine ⟨by omega,?_,by omega,(M2.ne k hk).2,fun e=>?_⟩
     ·rcases hR2 k hk with h|h
      ·omega
      ·exact hCw k h
     ·rcases hR2 k hk with h|h
      ·have:=hownA k e;omega
      ·exact hCl k h e⟩⟩⟩
set_option maxRecDepth 100000 in
set_option maxHeartbeats 3200000 in
theorem flField_qends (w0:World) (hEv:Env w0) (g:Nat) (hg0:w0.heap.size≤g) (s:ByteArray) (hs:s.size≤10000) (n:Int) (col:Nat→Nat→Rd (NT × Nat)→Prop) (hcol:CollC w0 g s n col) (deep:Nat) (hd:deep≤90) (p fin fb:Nat) (a:Int) (lv:Value) (lead:Coms) (o:Rd (Coms × List NT × Rst)) (w:World) (h:RS g s n ⟨[],false,fin,p⟩ (.slice none 0 0) w) (hF:w.heap[fb]?=some (.cells #[.int .i64 a,lv,.slice none 0 0] 55 (0,0))) (hL:HasV 2 w lv lead.length (comV lead)) (hlg:lv.ownBlock≠some g) (hlf:lv.ownBlock≠some fb) (hfg:fb≠g) (hll:lead.length≤20000) (hB:Bs w0 w [lv,blkV fb]) (hq:queryB s p=true) (b:Rst) (ho1:skipP s n (fresh (p+1)) (.ok b)) (hsg:signB s b.at' false=false) (hla:lacksB s b.at'=true) (oV:Rd (NT × Rst)) (hoV:valueP s n col voidN deep ⟨[],false,b.fin,b.at'⟩ oV) (hov:o=fldO (lead++b.l) voidN oV) :
  Calls Tryz.prog 17 #[.pointer (some ⟨g,0,none⟩),.pointer (some ⟨fb,0,none⟩),.int .i64 (deep:Int)] w fun e w'=>FldPost g s n fb a w [lv,blkV fb] o e w':=by
 have hg:=h.cells.lt
 have hwf:=h.ok
 have hfb:fb<w.heap.size:=(Array.getElem?_eq_some_iff.1 hF).1
 obtain ⟨al,cl,rfl⟩:=hL.form
 have CQ:=flQuery_is true g s n p (fin:Int) (.slice none 0 0) false w h.cells (by omega) hq
 have CE:∀ W,Calls Tryz.prog 30 #[] W fun e w'=>e=.returned (.agg #[.int .i64 1,.int .i64 1,.int .i64 (-1),.int .i64 0,.string ⟨#[]⟩,.string ⟨#[]⟩,.string ⟨#[]⟩,.slice none 0 0,.slice none 0 0,.slice none 0 0,.bool false,.string ⟨#[]⟩])∧Below W.heap.size W w':=fun W=>flEmpty_is W
 go_enter Tryz.func17,Tryz.ntmps17
 go_upto_region 2 with (first
  | (go_at_call 24;refine CQ.mono ?_;rintro e w1 ⟨rfl,j1,rfl⟩)
  | (go_at_call 30;refine (CE _).mono ?_;rintro e w2 ⟨rfl,b2⟩))
 have b02:Below w.heap.size w w2:=(below_drewN (Below.refl _ _) j1:Below w.heap.size w (w.drewN j1)).trans b2
 have sz2:=b02.size
 obtain ⟨w3,hw3⟩:∃ w3,w3=w2.alloc (.cells #[.int .i64 1,.int .i64 1,.int .i64 (-1),.int .i64 0,.string ⟨#[]⟩,.string ⟨#[]⟩,.string ⟨#[]⟩,.slice none 0 0,.slice none 0 0,.slice none 0 0,.bool false,.string ⟨#[]⟩] 30):=⟨_,rfl⟩
 have z3:w3.heap.size=w2.heap.size+1:=by rw[hw3];simp
 have b3:Below w2.heap.size w2 w3:=by rw[hw3];exact (Below.refl _ _).alloc (Nat.le_refl _) _
 have r3:w3.heap[w2.heap.size]?=some (.cells #[.int .i64 1,.int .i64 1,.int .i64 (-1),.int .i64 0,.string ⟨#[]⟩,.string ⟨#[]⟩,.string ⟨#[]⟩,.slice none 0 0,.slice none 0 0,.slice none 0 0,.bool false,.string ⟨#[]⟩] 30 (0,0)):=by rw[hw3];exact heap_alloc_new w2 _
 have b03:Below w.heap.size w w3:=b02.trans (b3.mono sz2)
 rw[←hw3]
 clear hw3
 obtain ⟨nb,hnb⟩:∃ nb,nb=w2.heap.size:=⟨_,rfl⟩
 rw[←hnb] at r3 z3 ⊢
 have hnb0:w.heap.size≤nb:=by omega
 have R3:=h.below b03 (Nat.le_refl _)
 have F3:=(b03.block fb hfb).trans hF
 have L3:=hL.below b03 (Nat.le_refl _)
 have K3:Keep (Lv w.heap.size g [.slice al lead.length cl,blkV fb]) w w3:=Keep.of b03 (fun k hk=>hk.1)
 have hownL:=hL.own
 have HNB:=Lib.hid hnb
 clear hnb b02 b3 b2 CE CQ b03 hF h hL
 have hlt:=query_lt hq
 have c3:=R3.cells.cell
 go_upto_region 5 with (first
  | (go_at_call 18;refine (flPass_is g s n _ _ ((p:Int)+1) (.slice none 0 0) false _ R3.cells).mono ?_;rintro e w4 ⟨rfl,h4,g4,z4⟩;have R4:RS g s n (fresh (p+1)) (.slice none 0 0) w4:=RS.bare (by rw[show ((p+1:Nat):Int)=(p:Int)+1 by omega];exact h4) (Nat.le_refl _) hlt;have K4:Keep (Lv w.heap.size g [.slice al lead.length cl,blkV fb]) w w4:=K3.trans (Q:=fun k=>k<w3.heap.size∧k≠g) ⟨g4.os,g4.tape,g4.output,by omega,fun k hk=>g4.block k hk.1 (fun e=>hk.2 (by injection e))⟩ (fun k hk=>⟨by have:=hk.1;omega,hk.2.1⟩);have F4:=(g4.block fb (by omega) (fun e=>hfg (by injection e))).trans F3;have L4:=L3.grown g4 (.inr hlg);have r4:=(g4.block nb (by omega) (fun e=>by injection e with e;omega)).trans r3)
  | (go_at_call 19;refine (flSkip_of g s n (fresh (p+1)) (.slice none 0 0) (.ok b) _ R4 hs ho1).mono ?_;rintro e w5 ⟨c5,v5,r5,rfl,R5,n5,K45,res5⟩;obtain ⟨rfl,rfl⟩:=res5))
 have hm45:∀ k,k<w4.heap.size→k≠g→w5.heap[k]?=w4.heap[k]?:=fun k hk hne=>K45.block k ⟨hk,hne,fun u hu e=>by rw[List.mem_singleton] at hu;subst hu;cases e⟩
 have sz45:=K45.size
 have V5:∀ k,v5.ownBlock=some k→w4.heap.size≤k∧k<w5.heap.size:=fun k hk=>⟨(by rcases n5 k hk with h|⟨u,hu,h⟩;exact h;rw[List.mem_singleton] at hu;subst hu;cases h),R5.has.own k hk⟩
 have K5:Keep (Lv w.heap.size g [.slice al lead.length cl,blkV fb]) w w5:=K4.trans (Q:=fun k=>k<w4.heap.size∧k≠g) ⟨K45.os,K45.tape,K45.output,sz45,fun k hk=>hm45 k hk.1 hk.2⟩ (fun k hk=>⟨by have:=hk.1;omega,hk.2.1⟩)
 have N5:NewV w.heap.size [.slice al lead.length cl,blkV fb] v5:=fun k hk=>.inl (by have:=V5 k hk;omega)
 obtain ⟨a5,c5',rfl⟩:=R5.has.form
 have A5:=R5.cells
 have wf5:=R5.ok
 have H5:=R5.has
 have ap5:=R5.apart
 have L5:HasV 2 w5 (.slice al lead.length cl) lead.length (comV lead):=L4.keep fun k hk hlt=>hm45 k hlt (fun e=>hlg (by rw[hk,e]))
 have F5:=(hm45 fb (by omega) hfg).trans F4
 have r5':=(hm45 nb (by omega) (by omega)).trans r4
 have hbl:r5.l.length≤10000:=by have:=wf5.few;have:=wf5.top;omega
 have HL5:=Lib.hid L5
 have HH5:=Lib.hid H5
 have HK5:=Lib.hid (And.intro K5 hm45)
 have hown5:=H5.own
 have K5sz:=K5.size
 obtain ⟨X,hX⟩:∃ X,lead++r5.l=X:=⟨_,rfl⟩
 have HX:=Lib.hid hX
 have cf5:∀ j,w5.cell? ⟨fb,j,none⟩=(#[.int .i64 a,.slice al lead.length cl,.slice none 0 0]:Array Value)[j]?:=fun j=>cell_of_row w5 _ j _ _ _ F5
 have ff5:∀ j,w5.frozen? ⟨fb,j,none⟩=false:=fun j=>frozen_of_row w5 _ j _ _ F5
 clear hX R5 K5 K45 K4 K3 R4 R3 n5 L5 L4 L3 H5 F3 F4 r3 r4 hm45 N5
 go_upto_region 7 with fail
 go_cut [36] (fun v36 wA=>∃ lv2,RS g s n ⟨[],false,r5.fin,r5.at'⟩ (.slice none 0 0) wA∧wA.heap[fb]?=some (.cells #[.int .i64 a,lv2,.slice none 0 0] 55 (0,0))∧HasV 2 wA lv2 X.length (comV X)∧(lv2.ownBlock=(Value.slice al lead.length cl).ownBlock∨∃ k,lv2.ownBlock=some k∧w5.heap.size≤k)∧Keep (Lv w.heap.size g [.slice al lead.length cl,blkV fb]) w wA∧wA.heap[nb]?=some (.cells #[.int .i64 1,.int .i64 1,.int .i64 (-1),.int .i64 0,.string ⟨#[]⟩,.string ⟨#[]⟩,.string ⟨#[]⟩,.slice none 0 0,.slice none 0 0,.slice none 0 0,.bool false,.string ⟨#[]⟩] 30 (0,0))∧w5.heap.size≤wA.heap.size)
 case first=>
  go_region_law (first
   | (go_simp;go_at_call 20;refine (flTake_is g s n _ _ a5 r5.l.length c5' r5.same w5.drew A5).mono ?_;rintro e w6 ⟨rfl,h6,g6,z6⟩;have cf6:w6.cell? ⟨fb,1,none⟩=some (.slice al lead.length cl):=(World.cell?_of_block (a:=⟨fb,1,none⟩) (g6.block fb (by show fb<w5.heap.size;omega) (fun e=>hfg (by injection e)))).trans (cf5 1))
   | (refine step_appendH rfl _ _ rfl _ (.slice al lead.length cl) (.slice a5 r5.l.length c5') lead r5.l rfl rfl ((HL5.out.keep (w':=w5.drew) (fun _ _ _=>rfl)).grown g6 (.inr hlg)) ((HH5.out.keep (w':=w5.drew) (fun _ _ _=>rfl)).grown g6 (.inr ap5)).toComs (by omega) ?_;intro v7 w7 o7 g7 n7;rw[HX.out] at o7;obtain ⟨a7,c7,rfl⟩:=o7.form;have F7:=(g7.block fb (by rw[z6];show fb<w5.heap.size;omega) (fun e=>hlf e.symm)).trans ((g6.block fb (by show fb<w5.heap.size;omega) (fun e=>hfg (by injection e))).trans F5);have cf7:∀ j,w7.cell? ⟨fb,j,none⟩=(#[.int .i64 a,.slice al lead.length cl,.slice none 0 0]:Array Value)[j]?:=fun j=>cell_of_row w7 _ j _ _ _ F7;have ff7:∀ j,w7.frozen? ⟨fb,j,none⟩=false:=fun j=>frozen_of_row w7 _ j _ _ F7))
  all_goals
   have G6:w5.grownBy w6 (some g):=⟨g6.os,g6.tape,g6.output,g6.size,g6.block⟩
   have Z6:w6.heap.size=w5.heap.size:=z6
   have HH:=Lib.hid (And.intro G6 (And.intro g7 (And.intro n7 (And.intro o7 (And.intro F7 h6)))))
   clear g6 z6 G6 g7 n7 o7 h6 F7 cf6 cf7 ff7
   go_wp2
   go_meet
   case rel=>
    obtain ⟨G6,g7,n7,o7,F7,h6⟩:=HH.out
    obtain ⟨K5,hm45⟩:=HK5.out
    have sz7:=g7.size
    have hs:∀ k,k≠fb→(w7.setCell ⟨fb,1,none⟩ (.slice a7 X.length c7)).heap[k]?=w7.heap[k]?:=fun k hk=>heap_setCell_other _ _ _ _ hk
    have n7':∀ k,(Value.slice a7 X.length c7).ownBlock=some k→(Value.slice al lead.length cl).ownBlock=some k∨k=w6.heap.size:=fun k hk=>(by rcases n7 with e|e;exact .inl (e.symm.trans hk);rw[e] at hk;injection hk with hk;exact .inr hk.symm)
    refine ⟨.slice a7 X.length c7,RS.bare ((hs g (fun e=>hfg e.symm)).trans (h6.grown g7 hlg)) wf5.le wf5.top,heap_setCell_same _ _ 1 _ _ _ F7,o7.keep (fun k hk _=>hs k (by rcases n7' k hk with e|e;exact fun e2=>hlf (by rw[e,e2]);omega)),?_,?_,?_,by simp[World.setCell];omega⟩
    ·rcases n7 with e|e
     ·exact .inl e
     ·exact .inr ⟨_,e,by omega⟩
    ·exact K5.trans (Q:=fun k=>k<w.heap.size∧k≠g∧k≠fb∧(Value.slice al lead.length cl).ownBlock≠some k) ⟨g7.os.trans G6.os,g7.tape.trans G6.tape,g7.output.trans G6.output,by simp[World.setCell];omega,fun k hk=>(hs k hk.2.2.1).trans ((g7.block k (by have:=hk.1;omega) (fun e=>hk.2.2.2 e.symm)).trans (G6.block k (by have:=hk.1;omega) (fun e=>hk.2.1 (by injection e))))⟩ (fun k hk=>⟨hk.1,hk.2.1,fun e=>hk.2.2 (blkV fb) (by simp) (by rw[e];rfl),hk.2.2 _ (by simp)⟩)
    ·rw[hs nb (by omega),g7.block nb (by omega) (fun e=>by have:=hownL nb e.symm;omega),G6.block nb (by omega) (fun e=>by injection e with e;omega)]
     exact r5'
 case rest=>
  rename World=>wA
  obtain ⟨lvA,RSa,Fa,La,Oa,Ka,ra,szA⟩:=hcut
  have Na:NewV w.heap.size [.slice al lead.length cl,blkV fb] lvA:=fun k hk=>(by rcases Oa with e|⟨k2,e,h2⟩;exact .inr ⟨_,by simp,e.symm.trans hk⟩;rw[e] at hk;injection hk with hk;exact .inl (by have:=K5sz;omega))
  have hnA:nb<wA.heap.size:=by omega
  have gA:lvA.ownBlock≠some g:=(by rcases Oa with e|⟨k,e,h⟩;rw[e];exact hlg;rw[e];intro e2;injection e2 with e2;omega)
  have fA:lvA.ownBlock≠some fb:=(by rcases Oa with e|⟨k,e,h⟩;rw[e];exact hlf;rw[e];intro e2;injection e2 with e2;omega)
  have kA:lvA.ownBlock≠some nb:=(by rcases Oa with e|⟨k,e,h⟩;rw[e];intro e2;have:=hownL nb e2;omega;rw[e];intro e2;injection e2 with e2;omega)
  have hownA:=La.own
  have hfA:fb<wA.heap.size:=(Array.getElem?_eq_some_iff.1 Fa).1
  have hgA:=RSa.cells.lt
  have qnA:∀ j,wA.cell? ⟨nb,j,none⟩=(#[.int .i64 1,.int .i64 1,.int .i64 (-1),.int .i64 0,.string ⟨#[]⟩,.string ⟨#[]⟩,.string ⟨#[]⟩,.slice none 0 0,.slice none 0 0,.slice none 0 0,.bool false,.string ⟨#[]⟩]:Array Value)[j]?:=fun j=>cell_of_row wA _ j _ _ _ ra
  have CLA:=flColon_x false g s n r5.at' (r5.fin:Int) (.slice none 0 0) false 1 1 (-1) 0 ⟨#[]⟩ ⟨#[]⟩ ⟨#[]⟩ none 0 0 none 0 0 none 0 0 false ⟨#[]⟩ wA RSa.cells (by omega) (by rw[show decide ((1:Int)=3∨(1:Int)=4∨(1:Int)=2∨(1:Int)=3)=false by decide];exact hsg)
  go_wp2_with fail
  refine CLA.mono ?_
  rintro e wB ⟨rfl,bB⟩
  have szB:=bB.size
  have RSb:=RSa.below bB (Nat.le_refl _)
  have Fb:=(bB.block fb hfA).trans Fa
  have Lb:=La.below bB (Nat.le_refl _)
  have rb:=(bB.block nb hnA).trans ra
  have Kb:Keep (Lv w.heap.size g [.slice al lead.length cl,blkV fb]) w wB:=Ka.trans (Keep.of bB (fun k hk=>hk)) (fun k hk=>Nat.lt_of_lt_of_le hk.1 Ka.size)
  have szKa:=Ka.size
  clear RSa Fa La ra Ka qnA CLA
  have CEN:=flEnds_is true g s n r5.at' (r5.fin:Int) (.slice none 0 0) false wB RSb.cells (by omega) hla
  go_wp2_with fail
  refine CEN.mono ?_
  rintro e wB' ⟨rfl,jB,rfl⟩
  obtain ⟨wC,hwC⟩:∃ wC,wC=wB.drewN jB:=⟨_,rfl⟩
  have RSc:=RSb.drewN jB
  have Fc:(wB.drewN jB).heap[fb]?=_:=Fb
  have rc:(wB.drewN jB).heap[nb]?=_:=rb
  have Lc:HasV 2 (wB.drewN jB) lvA X.length (comV X):=Lb.keep (fun _ _ _=>rfl)
  have Kc:=Kb.drewN jB
  have szC:(wB.drewN jB).heap.size=wB.heap.size:=rfl
  rw[←hwC] at RSc Fc rc Lc Kc szC ⊢
  clear hwC CEN RSb Fb rb Lb Kb
  have NC:NewV w.heap.size [.slice al lead.length cl,blkV fb] (.slice none 0 0):=NewV.none
  obtain ⟨vC,hvC⟩:∃ vC:Value,vC=.slice none 0 0:=⟨_,rfl⟩
  have hnil:∀ k,vC.ownBlock≠some k:=fun k e=>by rw[hvC] at e;cases e
  rw[←hvC] at RSc NC
  have hwCn:∀ k,vC.ownBlock=some k→k≠nb:=fun k e=>absurd e (hnil k)
  have hCf:∀ k,vC.ownBlock=some k→k≠fb:=fun k e=>absurd e (hnil k)
  have hCl:∀ k,vC.ownBlock=some k→lvA.ownBlock≠some k:=fun k e=>absurd e (hnil k)
  have hCw:∀ k,vC.ownBlock=some k→w.heap.size≤k:=fun k e=>absurd e (hnil k)
  obtain ⟨xk,hxk⟩:∃ xk,xk=voidN:=⟨_,rfl⟩
  have hkey:nearN xk=decide ((1:Int)=3∨(1:Int)=4∨(1:Int)=2∨(1:Int)=3):=by rw[hxk];rfl
  rw[←hxk] at hoV
  obtain ⟨Rk,hRke⟩:∃ Rk:Nat→Prop,Rk=fun _=>False:=⟨_,rfl⟩
  have hRk:∀ k,Rk k→k<wC.heap.size∧w.heap.size≤k∧k≠g∧k≠fb∧vC.ownBlock≠some k∧lvA.ownBlock≠some k:=fun k hk=>by rw[hRke] at hk;exact hk.elim
  have Nk:IsN Rk wC xk [.int .i64 1,.int .i64 1,.int .i64 (-1),.int .i64 0,.string ⟨#[]⟩,.string ⟨#[]⟩,.string ⟨#[]⟩,.slice none 0 0,.slice none 0 0,.slice none 0 0,.bool false,.string ⟨#[]⟩]:=by rw[hxk];exact IsN.shut (ComsR.nil _ _) (ComsR.nil _ _) (NodesR.nil _ _)
  have hlk:xk.h.lead.length≤40000:=by rw[hxk];exact Nat.zero_le _
  have hov2:o=fldO X xk oV:=by
   rw[hxk,←HX.out]
   exact hov
  clear hxk hRke hvC hnil hov
  have qnC:∀ j,wC.cell? ⟨nb,j,none⟩=(#[.int .i64 1,.int .i64 1,.int .i64 (-1),.int .i64 0,.string ⟨#[]⟩,.string ⟨#[]⟩,.string ⟨#[]⟩,.slice none 0 0,.slice none 0 0,.slice none 0 0,.bool false,.string ⟨#[]⟩]:Array Value)[j]?:=fun j=>cell_of_row wC _ j _ _ _ rc
  have CV:=flValue_is w0 hEv g hg0 s hs n col hcol deep (by omega) ⟨[],false,r5.fin,r5.at'⟩ vC 1 1 (-1) 0 ⟨#[]⟩ ⟨#[]⟩ ⟨#[]⟩ none 0 0 none 0 0 none 0 0 false ⟨#[]⟩ oV wC RSc (hB.next hg0 Kc (one_mem NC)) xk hkey hoV
  have hownC:=RSc.has.own
  have hC5:=hwCn
  have szKc:=Kc.size
  go_upto_region 17 with (go_at_call 29;refine CV.mono ?_;rintro e wD ⟨cs2,c2,rfl,x2,r2,v2,R2,M2⟩;have rD:=(M2.keep.block nb ⟨by omega,by omega,fun u hu e=>by rw[List.mem_singleton] at hu;subst hu;exact hC5 nb e rfl⟩).trans rc;have FD:=(M2.keep.block fb ⟨by omega,hfg,fun u hu e=>by rw[List.mem_singleton] at hu;subst hu;exact hCf fb e rfl⟩).trans Fc;obtain ⟨y0,y1,y2,y3,y4,y5,y6,ya,yb,yc,yd,ye,yf,yg,yh,yi,y7,y8,rfl⟩:=M2.node.cells12;have HM2:=Lib.hid M2;clear M2)
  obtain ⟨wE,hwE⟩:∃ wE,wE=wD.alloc (.cells #[.int .i64 y0,.int .i64 y1,.int .i64 y2,.int .i64 y3,.string y4,.string y5,.string y6,.slice ya yb yc,.slice yd ye yf,.slice yg yh yi,.bool y7,.string y8] 30):=⟨_,rfl⟩
  have szD:=HM2.out.keep.size
  have zE:wE.heap.size=wD.heap.size+1:=by rw[hwE];simp
  have bE:Below wD.heap.size wD wE:=by rw[hwE];exact (Below.refl _ _).alloc (Nat.le_refl _) _
  have rvE:wE.heap[wD.heap.size]?=some (.cells #[.int .i64 y0,.int .i64 y1,.int .i64 y2,.int .i64 y3,.string y4,.string y5,.string y6,.slice ya yb yc,.slice yd ye yf,.slice yg yh yi,.bool y7,.string y8] 30 (0,0)):=by rw[hwE];exact heap_alloc_new wD _
  have rE:=(bE.block nb (by omega)).trans rD
  have FE:=(bE.block fb (by omega)).trans FD
  rw[←hwE]
  clear hwE rD FD qnC
  have qnE:∀ j,wE.cell? ⟨nb,j,none⟩=(#[.int .i64 1,.int .i64 1,.int .i64 (-1),.int .i64 0,.string ⟨#[]⟩,.string ⟨#[]⟩,.string ⟨#[]⟩,.slice none 0 0,.slice none 0 0,.slice none 0 0,.bool false,.string ⟨#[]⟩]:Array Value)[j]?:=fun j=>cell_of_row wE _ j _ _ _ rE
  have qvE:∀ j,wE.cell? ⟨wD.heap.size,j,none⟩=(#[.int .i64 y0,.int .i64 y1,.int .i64 y2,.int .i64 y3,.string y4,.string y5,.string y6,.slice ya yb yc,.slice yd ye yf,.slice yg yh yi,.bool y7,.string y8]:Array Value)[j]?:=fun j=>cell_of_row wE _ j _ _ _ rvE
  have qfF:∀ ob j,(wE.alloc ob).cell? ⟨fb,j,none⟩=(#[.int .i64 a,lvA,.slice none 0 0]:Array Value)[j]?:=fun ob j=>cell_of_row _ _ j _ _ _ ((heap_alloc_old wE ob (show fb<wE.heap.size by omega)).trans FE)
  have ffF:∀ ob j,(wE.alloc ob).frozen? ⟨fb,j,none⟩=false:=fun ob j=>frozen_of_row _ _ j _ _ ((heap_alloc_old wE ob (show fb<wE.heap.size by omega)).trans FE)
  have HC:=Lib.hid (And.intro Lc (And.intro Kc RSc))
  clear CV Lc Kc RSc rc Fc
  go_wp2
  go_ret
  obtain ⟨Lc,Kc,RSc⟩:=HC.out
  have M2:=HM2.out
  obtain ⟨wF,hwF⟩:∃ wF,wF=(wE.alloc (.cells #[.int .i64 1,.int .i64 1,.int .i64 (-1),.int .i64 0,.string ⟨#[]⟩,.string ⟨#[]⟩,.string ⟨#[]⟩,.slice none 0 0,.slice none 0 0,.slice none 0 0,.bool false,.string ⟨#[]⟩,.int .i64 y0,.int .i64 y1,.int .i64 y2,.int .i64 y3,.string y4,.string y5,.string y6,.slice ya yb yc,.slice yd ye yf,.slice yg yh yi,.bool y7,.string y8] 30)).setCell ⟨fb,2,none⟩ (.slice (some ⟨wE.heap.size,0,none⟩) 2 2):=⟨_,rfl⟩
  have zF:wF.heap.size=wE.heap.size+1:=by rw[hwF];simp[World.setCell]
  have sF:∀ k,k<wE.heap.size→k≠fb→wF.heap[k]?=wE.heap[k]?:=fun k h1 h2=>by rw[hwF,heap_setCell_other _ _ _ _ h2];exact heap_alloc_old _ _ h1
  have oF:wF.os=wE.os∧wF.tape=wE.tape∧wF.output=wE.output:=by rw[hwF];exact ⟨rfl,rfl,rfl⟩
  have rF:wF.heap[wE.heap.size]?=some (.cells #[.int .i64 1,.int .i64 1,.int .i64 (-1),.int .i64 0,.string ⟨#[]⟩,.string ⟨#[]⟩,.string ⟨#[]⟩,.slice none 0 0,.slice none 0 0,.slice none 0 0,.bool false,.string ⟨#[]⟩,.int .i64 y0,.int .i64 y1,.int .i64 y2,.int .i64 y3,.string y4,.string y5,.string y6,.slice ya yb yc,.slice yd ye yf,.slice yg yh yi,.bool y7,.string y8] 30 (0,0)):=by rw[hwF,heap_setCell_other _ _ _ _ (show wE.heap.size≠fb by omega)];exact heap_alloc_new wE _
  have FF:wF.heap[fb]?=some (.cells #[.int .i64 a,lvA,.slice (some ⟨wE.heap.size,0,none⟩) 2 2] 55 (0,0)):=by rw[hwF];exact heap_setCell_same _ _ 2 _ _ _ ((heap_alloc_old _ _ (show fb<wE.heap.size by omega)).trans FE)
  first|rw[←hwF] | rw[show wD.heap.size+1=wE.heap.size from zE.symm,←hwF] | (rw[zE] at hwF;rw[←hwF])
  have far:∀ k,k<wD.heap.size→k≠fb→wF.heap[k]?=wD.heap[k]?:=fun k h1 h2=>(sF k (by omega) h2).trans (bE.block k h1)
  have hnew2:∀ k,v2.ownBlock=some k→wC.heap.size≤k∨vC.ownBlock=some k:=fun k hk=>(by rcases M2.new k hk with h|⟨u,hu,h⟩;exact .inl h;rw[List.mem_singleton] at hu;subst hu;exact .inr h)
  have hR2:∀ k,R2 k→wC.heap.size≤k∨vC.ownBlock=some k:=fun k hk=>(by rcases M2.own k hk with h|⟨u,hu,h⟩;exact .inl h;rw[List.mem_singleton] at hu;subst hu;exact .inr h)
  have hv2o:=M2.st.has.own
  have v2f:∀ k,v2.ownBlock=some k→k≠fb:=fun k hk=>(by rcases hnew2 k hk with h|h;omega;exact hCf k h)
  have RF:RSb g s n r2 v2 wF:=M2.st.keep (fun k hlt hk=>far k hlt (by rcases hk with rfl|hk;exact fun e=>hfg e.symm;exact v2f k hk))
  have LF:HasV 2 wF lvA X.length (comV X):=Lc.keep (fun k hk hlt=>(far k (by omega) (fun e=>fA (by rw[hk,e]))).trans (M2.keep.block k ⟨hlt,fun e=>gA (by rw[hk,e]),fun u hu e=>by rw[List.mem_singleton] at hu;subst hu;exact hCl k e hk⟩))
  have KF:Keep (Lv w.heap.size g [.slice al lead.length cl,blkV fb]) w wF:=(Kc.trans M2.keep (Lv.step Kc.size (one_mem NC))).trans (Q:=fun k=>k<w.heap.size∧k≠fb) ⟨oF.1.trans bE.os,oF.2.1.trans bE.tape,oF.2.2.trans bE.output,by omega,fun k hk=>far k (by have:=hk.1;omega) hk.2⟩ (fun k hk=>⟨hk.1,fun e=>hk.2.2 (blkV fb) (by simp) (by rw[e];rfl)⟩)
  have NF:NewV w.heap.size [.slice al lead.length cl,blkV fb] v2:=M2.new.trans Kc.size (one_mem NC)
  have N2:IsN R2 wF x2 [.int .i64 y0,.int .i64 y1,.int .i64 y2,.int .i64 y3,.string y4,.string y5,.string y6,.slice ya yb yc,.slice yd ye yf,.slice yg yh yi,.bool y7,.string y8]:=IsN.frame (fun b hb=>⟨hb,far b (M2.lt b hb) (by rcases hR2 b hb with h|h;omega;exact hCf b h)⟩) x2 _ M2.node
  have N1:IsN Rk wF xk [.int .i64 1,.int .i64 1,.int .i64 (-1),.int .i64 0,.string ⟨#[]⟩,.string ⟨#[]⟩,.string ⟨#[]⟩,.slice none 0 0,.slice none 0 0,.slice none 0 0,.bool false,.string ⟨#[]⟩]:=IsN.frame (fun b hb=>⟨hb,(far b (by have:=(hRk b hb).1;omega) (hRk b hb).2.2.2.1).trans (M2.keep.block b ⟨(hRk b hb).1,(hRk b hb).2.2.1,fun u hu e=>by rw[List.mem_singleton] at hu;subst hu;exact (hRk b hb).2.2.2.2.1 e⟩)⟩) xk _ Nk
  refine ⟨c2,r2,v2,rfl,RF,NF,KF,fun e=>v2f fb e rfl,?_⟩
  have hres:=M2.res
  rw[hov2]
  cases oV with
  | bad q k=>exact hres
  | ok y=>exact ⟨hres.1,(congrArg Prod.snd hres.2).symm,M2.wf _ rfl,(fun z hz=>by simp at hz;subst hz;exact hlk),by
   have hy:y.1=x2:=congrArg Prod.fst hres.2
   show ∃ lv kb m cap arr R,FndM g fb a w wF [.slice al lead.length cl,blkV fb] v2 X [xk,y.1] lv kb m cap arr R
   rw[hy]
   exact ⟨lvA,wE.heap.size,2,2,#[.int .i64 1,.int .i64 1,.int .i64 (-1),.int .i64 0,.string ⟨#[]⟩,.string ⟨#[]⟩,.string ⟨#[]⟩,.slice none 0 0,.slice none 0 0,.slice none 0 0,.bool false,.string ⟨#[]⟩,.int .i64 y0,.int .i64 y1,.int .i64 y2,.int .i64 y3,.string y4,.string y5,.string y6,.slice ya yb yc,.slice yd ye yf,.slice yg yh yi,.bool y7,.string y8],fun k=>Rk k∨R2 k,⟨FF,LF,rF,⟨rfl,Nat.le_refl _,by decide,Nat.le_refl _⟩,IsKL.two (N1.frame' (fun b hb=>.inl hb)) (N2.frame' (fun b hb=>.inr hb)),⟨by omega,fun e=>by have:=hv2o _ e;omega,fun e=>by have:=LF.own _ e;have:=hownA _ e;omega⟩,⟨Na,gA,fA,fun k hk e=>by rcases hnew2 k e with h|h;have:=hownA k hk;omega;exact hCl k h hk⟩,fun k hk=>by
    rcases hk with hk|hk
    ·obtain ⟨q1,q2,q3,q4,q5,q6⟩:=hRk k hk
     exact ⟨by omega,q2,by omega,fun e=>by rcases hnew2 k e with h|h;omega;exact q5 h,q6⟩
    ·have q1:=M2.lt k hk
     refine ⟨by omega,?_,by omega,(M2.ne k hk).2,fun e=>?_⟩
     ·rcases hR2 k hk with h|h
      ·omega
      ·exact hCw k h
     ·rcases hR2 k hk with h|h
      ·have:=hownA k e;omega
      ·exact hCl k h e⟩⟩⟩
set_option maxRecDepth 100000 in
set_option maxHeartbeats 3200000 in
theorem flField_void (w0:World) (hEv:Env w0) (g:Nat) (hg0:w0.heap.size≤g) (s:ByteArray) (hs:s.size≤10000) (n:Int) (col:Nat→Nat→Rd (NT × Nat)→Prop) (hcol:CollC w0 g s n col) (deep:Nat) (hd:deep≤90) (p fin fb:Nat) (a:Int) (lv:Value) (lead:Coms) (o:Rd (Coms × List NT × Rst)) (w:World) (h:RS g s n ⟨[],false,fin,p⟩ (.slice none 0 0) w) (hF:w.heap[fb]?=some (.cells #[.int .i64 a,lv,.slice none 0 0] 55 (0,0))) (hL:HasV 2 w lv lead.length (comV lead)) (hlg:lv.ownBlock≠some g) (hlf:lv.ownBlock≠some fb) (hfg:fb≠g) (_hll:lead.length≤20000) (hB:Bs w0 w [lv,blkV fb]) (hq:queryB s p=false) (hsg:signB s p false=true) (oV:Rd (NT × Rst)) (hoV:valueP s n col voidN deep ⟨[],false,fin,p⟩ oV) (hov:o=fldO (lead) voidN oV) :
  Calls Tryz.prog 17 #[.pointer (some ⟨g,0,none⟩),.pointer (some ⟨fb,0,none⟩),.int .i64 (deep:Int)] w fun e w'=>FldPost g s n fb a w [lv,blkV fb] o e w':=by
 have hg:=h.cells.lt
 have hwf:=h.ok
 have hfb:fb<w.heap.size:=(Array.getElem?_eq_some_iff.1 hF).1
 obtain ⟨al,cl,rfl⟩:=hL.form
 have CQ:=flQuery_is false g s n p (fin:Int) (.slice none 0 0) false w h.cells (by omega) hq
 have CE:∀ W,Calls Tryz.prog 30 #[] W fun e w'=>e=.returned (.agg #[.int .i64 1,.int .i64 1,.int .i64 (-1),.int .i64 0,.string ⟨#[]⟩,.string ⟨#[]⟩,.string ⟨#[]⟩,.slice none 0 0,.slice none 0 0,.slice none 0 0,.bool false,.string ⟨#[]⟩])∧Below W.heap.size W w':=fun W=>flEmpty_is W
 go_enter Tryz.func17,Tryz.ntmps17
 go_upto_region 2 with (first
  | (go_at_call 24;refine CQ.mono ?_;rintro e w1 ⟨rfl,j1,rfl⟩)
  | (go_at_call 30;refine (CE _).mono ?_;rintro e w2 ⟨rfl,b2⟩))
 have b02:Below w.heap.size w w2:=(below_drewN (Below.refl _ _) j1:Below w.heap.size w (w.drewN j1)).trans b2
 have sz2:=b02.size
 obtain ⟨wA,hwA⟩:∃ wA,wA=w2.alloc (.cells #[.int .i64 1,.int .i64 1,.int .i64 (-1),.int .i64 0,.string ⟨#[]⟩,.string ⟨#[]⟩,.string ⟨#[]⟩,.slice none 0 0,.slice none 0 0,.slice none 0 0,.bool false,.string ⟨#[]⟩] 30):=⟨_,rfl⟩
 have z3:wA.heap.size=w2.heap.size+1:=by rw[hwA];simp
 have b3:Below w2.heap.size w2 wA:=by rw[hwA];exact (Below.refl _ _).alloc (Nat.le_refl _) _
 have ra:wA.heap[w2.heap.size]?=some (.cells #[.int .i64 1,.int .i64 1,.int .i64 (-1),.int .i64 0,.string ⟨#[]⟩,.string ⟨#[]⟩,.string ⟨#[]⟩,.slice none 0 0,.slice none 0 0,.slice none 0 0,.bool false,.string ⟨#[]⟩] 30 (0,0)):=by rw[hwA];exact heap_alloc_new w2 _
 have b03:Below w.heap.size w wA:=b02.trans (b3.mono sz2)
 rw[←hwA]
 clear hwA
 obtain ⟨nb,hnb⟩:∃ nb,nb=w2.heap.size:=⟨_,rfl⟩
 rw[←hnb] at ra z3 ⊢
 have hnb0:w.heap.size≤nb:=by omega
 have RSa:=h.below b03 (Nat.le_refl _)
 have Fa:=(b03.block fb hfb).trans hF
 have La:=hL.below b03 (Nat.le_refl _)
 have Ka:Keep (Lv w.heap.size g [.slice al lead.length cl,blkV fb]) w wA:=Keep.of b03 (fun k hk=>hk.1)
 have hownL:=hL.own
 have HNB:=Lib.hid hnb
 clear hnb b02 b3 b2 CE CQ b03 hF h hL
 obtain ⟨lvA,hlv⟩:∃ lvA,lvA=Value.slice al lead.length cl:=⟨_,rfl⟩
 have Na:NewV w.heap.size [.slice al lead.length cl,blkV fb] lvA:=fun k hk=>.inr ⟨Value.slice al lead.length cl,by simp,by rw[←hlv];exact hk⟩
 rw[←hlv] at La Fa hownL hlg hlf
 clear hlv
 have hnA:nb<wA.heap.size:=by omega
 have gA:lvA.ownBlock≠some g:=hlg
 have fA:lvA.ownBlock≠some fb:=hlf
 have kA:lvA.ownBlock≠some nb:=(fun e=>by have:=hownL nb e;omega)
 have hownA:=La.own
 have hfA:fb<wA.heap.size:=(Array.getElem?_eq_some_iff.1 Fa).1
 have hgA:=RSa.cells.lt
 have qnA:∀ j,wA.cell? ⟨nb,j,none⟩=(#[.int .i64 1,.int .i64 1,.int .i64 (-1),.int .i64 0,.string ⟨#[]⟩,.string ⟨#[]⟩,.string ⟨#[]⟩,.slice none 0 0,.slice none 0 0,.slice none 0 0,.bool false,.string ⟨#[]⟩]:Array Value)[j]?:=fun j=>cell_of_row wA _ j _ _ _ ra
 have CLA:=flColon_x true g s n p (fin:Int) (.slice none 0 0) false 1 1 (-1) 0 ⟨#[]⟩ ⟨#[]⟩ ⟨#[]⟩ none 0 0 none 0 0 none 0 0 false ⟨#[]⟩ wA RSa.cells (by omega) (by rw[show decide ((1:Int)=3∨(1:Int)=4∨(1:Int)=2∨(1:Int)=3)=false by decide];exact hsg)
 go_wp2_with fail
 refine CLA.mono ?_
 rintro e wB ⟨rfl,bB⟩
 have szB:=bB.size
 have RSb:=RSa.below bB (Nat.le_refl _)
 have Fb:=(bB.block fb hfA).trans Fa
 have Lb:=La.below bB (Nat.le_refl _)
 have rb:=(bB.block nb hnA).trans ra
 have Kb:Keep (Lv w.heap.size g [.slice al lead.length cl,blkV fb]) w wB:=Ka.trans (Keep.of bB (fun k hk=>hk)) (fun k hk=>Nat.lt_of_lt_of_le hk.1 Ka.size)
 have szKa:=Ka.size
 clear RSa Fa La ra Ka qnA CLA
 obtain ⟨wC,hwC⟩:∃ wC,wC=wB:=⟨_,rfl⟩
 have RSc:=RSb
 have Fc:=Fb
 have rc:=rb
 have Lc:=Lb
 have Kc:=Kb
 have szC:wC.heap.size=wB.heap.size:=by rw[hwC]
 rw[←hwC] at RSc Fc rc Lc Kc ⊢
 clear hwC RSb Fb rb Lb Kb
 have NC:NewV w.heap.size [.slice al lead.length cl,blkV fb] (.slice none 0 0):=NewV.none
 obtain ⟨vC,hvC⟩:∃ vC:Value,vC=.slice none 0 0:=⟨_,rfl⟩
 have hnil:∀ k,vC.ownBlock≠some k:=fun k e=>by rw[hvC] at e;cases e
 rw[←hvC] at RSc NC
 have hwCn:∀ k,vC.ownBlock=some k→k≠nb:=fun k e=>absurd e (hnil k)
 have hCf:∀ k,vC.ownBlock=some k→k≠fb:=fun k e=>absurd e (hnil k)
 have hCl:∀ k,vC.ownBlock=some k→lvA.ownBlock≠some k:=fun k e=>absurd e (hnil k)
 have hCw:∀ k,vC.ownBlock=some k→w.heap.size≤k:=fun k e=>absurd e (hnil k)
 obtain ⟨xk,hxk⟩:∃ xk,xk=voidN:=⟨_,rfl⟩
 have hkey:nearN xk=decide ((1:Int)=3∨(1:Int)=4∨(1:Int)=2∨(1:Int)=3):=by rw[hxk];rfl
 rw[←hxk] at hoV
 obtain ⟨Rk,hRke⟩:∃ Rk:Nat→Prop,Rk=fun _=>False:=⟨_,rfl⟩
 have hRk:∀ k,Rk k→k<wC.heap.size∧w.heap.size≤k∧k≠g∧k≠fb∧vC.ownBlock≠some k∧lvA.ownBlock≠some k:=fun k hk=>by rw[hRke] at hk;exact hk.elim
 have Nk:IsN Rk wC xk [.int .i64 1,.int .i64 1,.int .i64 (-1),.int .i64 0,.string ⟨#[]⟩,.string ⟨#[]⟩,.string ⟨#[]⟩,.slice none 0 0,.slice none 0 0,.slice none 0 0,.bool false,.string ⟨#[]⟩]:=by rw[hxk];exact IsN.shut (ComsR.nil _ _) (ComsR.nil _ _) (NodesR.nil _ _)
 have hlk:xk.h.lead.length≤40000:=by rw[hxk];exact Nat.zero_le _
 have hov2:o=fldO lead xk oV:=by
  rw[hxk]
  exact hov
 clear hxk hRke hvC hnil hov
 have qnC:∀ j,wC.cell? ⟨nb,j,none⟩=(#[.int .i64 1,.int .i64 1,.int .i64 (-1),.int .i64 0,.string ⟨#[]⟩,.string ⟨#[]⟩,.string ⟨#[]⟩,.slice none 0 0,.slice none 0 0,.slice none 0 0,.bool false,.string ⟨#[]⟩]:Array Value)[j]?:=fun j=>cell_of_row wC _ j _ _ _ rc
 have CV:=flValue_is w0 hEv g hg0 s hs n col hcol deep (by omega) ⟨[],false,fin,p⟩ vC 1 1 (-1) 0 ⟨#[]⟩ ⟨#[]⟩ ⟨#[]⟩ none 0 0 none 0 0 none 0 0 false ⟨#[]⟩ oV wC RSc (hB.next hg0 Kc (one_mem NC)) xk hkey hoV
 have hownC:=RSc.has.own
 have hC5:=hwCn
 have szKc:=Kc.size
 go_upto_region 17 with (go_at_call 29;refine CV.mono ?_;rintro e wD ⟨cs2,c2,rfl,x2,r2,v2,R2,M2⟩;have rD:=(M2.keep.block nb ⟨by omega,by omega,fun u hu e=>by rw[List.mem_singleton] at hu;subst hu;exact hC5 nb e rfl⟩).trans rc;have FD:=(M2.keep.block fb ⟨by omega,hfg,fun u hu e=>by rw[List.mem_singleton] at hu;subst hu;exact hCf fb e rfl⟩).trans Fc;obtain ⟨y0,y1,y2,y3,y4,y5,y6,ya,yb,yc,yd,ye,yf,yg,yh,yi,y7,y8,rfl⟩:=M2.node.cells12;have HM2:=Lib.hid M2;clear M2)
 obtain ⟨wE,hwE⟩:∃ wE,wE=wD.alloc (.cells #[.int .i64 y0,.int .i64 y1,.int .i64 y2,.int .i64 y3,.string y4,.string y5,.string y6,.slice ya yb yc,.slice yd ye yf,.slice yg yh yi,.bool y7,.string y8] 30):=⟨_,rfl⟩
 have szD:=HM2.out.keep.size
 have zE:wE.heap.size=wD.heap.size+1:=by rw[hwE];simp
 have bE:Below wD.heap.size wD wE:=by rw[hwE];exact (Below.refl _ _).alloc (Nat.le_refl _) _
 have rvE:wE.heap[wD.heap.size]?=some (.cells #[.int .i64 y0,.int .i64 y1,.int .i64 y2,.int .i64 y3,.string y4,.string y5,.string y6,.slice ya yb yc,.slice yd ye yf,.slice yg yh yi,.bool y7,.string y8] 30 (0,0)):=by rw[hwE];exact heap_alloc_new wD _
 have rE:=(bE.block nb (by omega)).trans rD
 have FE:=(bE.block fb (by omega)).trans FD
 rw[←hwE]
 clear hwE rD FD qnC
 have qnE:∀ j,wE.cell? ⟨nb,j,none⟩=(#[.int .i64 1,.int .i64 1,.int .i64 (-1),.int .i64 0,.string ⟨#[]⟩,.string ⟨#[]⟩,.string ⟨#[]⟩,.slice none 0 0,.slice none 0 0,.slice none 0 0,.bool false,.string ⟨#[]⟩]:Array Value)[j]?:=fun j=>cell_of_row wE _ j _ _ _ rE
 have qvE:∀ j,wE.cell? ⟨wD.heap.size,j,none⟩=(#[.int .i64 y0,.int .i64 y1,.int .i64 y2,.int .i64 y3,.string y4,.string y5,.string y6,.slice ya yb yc,.slice yd ye yf,.slice yg yh yi,.bool y7,.string y8]:Array Value)[j]?:=fun j=>cell_of_row wE _ j _ _ _ rvE
 have qfF:∀ ob j,(wE.alloc ob).cell? ⟨fb,j,none⟩=(#[.int .i64 a,lvA,.slice none 0 0]:Array Value)[j]?:=fun ob j=>cell_of_row _ _ j _ _ _ ((heap_alloc_old wE ob (show fb<wE.heap.size by omega)).trans FE)
 have ffF:∀ ob j,(wE.alloc ob).frozen? ⟨fb,j,none⟩=false:=fun ob j=>frozen_of_row _ _ j _ _ ((heap_alloc_old wE ob (show fb<wE.heap.size by omega)).trans FE)
 have HC:=Lib.hid (And.intro Lc (And.intro Kc RSc))
 clear CV Lc Kc RSc rc Fc
 go_wp2
 go_ret
 obtain ⟨Lc,Kc,RSc⟩:=HC.out
 have M2:=HM2.out
 obtain ⟨wF,hwF⟩:∃ wF,wF=(wE.alloc (.cells #[.int .i64 1,.int .i64 1,.int .i64 (-1),.int .i64 0,.string ⟨#[]⟩,.string ⟨#[]⟩,.string ⟨#[]⟩,.slice none 0 0,.slice none 0 0,.slice none 0 0,.bool false,.string ⟨#[]⟩,.int .i64 y0,.int .i64 y1,.int .i64 y2,.int .i64 y3,.string y4,.string y5,.string y6,.slice ya yb yc,.slice yd ye yf,.slice yg yh yi,.bool y7,.string y8] 30)).setCell ⟨fb,2,none⟩ (.slice (some ⟨wE.heap.size,0,none⟩) 2 2):=⟨_,rfl⟩
 have zF:wF.heap.size=wE.heap.size+1:=by rw[hwF];simp[World.setCell]
 have sF:∀ k,k<wE.heap.size→k≠fb→wF.heap[k]?=wE.heap[k]?:=fun k h1 h2=>by rw[hwF,heap_setCell_other _ _ _ _ h2];exact heap_alloc_old _ _ h1
 have oF:wF.os=wE.os∧wF.tape=wE.tape∧wF.output=wE.output:=by rw[hwF];exact ⟨rfl,rfl,rfl⟩
 have rF:wF.heap[wE.heap.size]?=some (.cells #[.int .i64 1,.int .i64 1,.int .i64 (-1),.int .i64 0,.string ⟨#[]⟩,.string ⟨#[]⟩,.string ⟨#[]⟩,.slice none 0 0,.slice none 0 0,.slice none 0 0,.bool false,.string ⟨#[]⟩,.int .i64 y0,.int .i64 y1,.int .i64 y2,.int .i64 y3,.string y4,.string y5,.string y6,.slice ya yb yc,.slice yd ye yf,.slice yg yh yi,.bool y7,.string y8] 30 (0,0)):=by rw[hwF,heap_setCell_other _ _ _ _ (show wE.heap.size≠fb by omega)];exact heap_alloc_new wE _
 have FF:wF.heap[fb]?=some (.cells #[.int .i64 a,lvA,.slice (some ⟨wE.heap.size,0,none⟩) 2 2] 55 (0,0)):=by rw[hwF];exact heap_setCell_same _ _ 2 _ _ _ ((heap_alloc_old _ _ (show fb<wE.heap.size by omega)).trans FE)
 first|rw[←hwF] | rw[show wD.heap.size+1=wE.heap.size from zE.symm,←hwF] | (rw[zE] at hwF;rw[←hwF])
 have far:∀ k,k<wD.heap.size→k≠fb→wF.heap[k]?=wD.heap[k]?:=fun k h1 h2=>(sF k (by omega) h2).trans (bE.block k h1)
 have hnew2:∀ k,v2.ownBlock=some k→wC.heap.size≤k∨vC.ownBlock=some k:=fun k hk=>(by rcases M2.new k hk with h|⟨u,hu,h⟩;exact .inl h;rw[List.mem_singleton] at hu;subst hu;exact .inr h)
 have hR2:∀ k,R2 k→wC.heap.size≤k∨vC.ownBlock=some k:=fun k hk=>(by rcases M2.own k hk with h|⟨u,hu,h⟩;exact .inl h;rw[List.mem_singleton] at hu;subst hu;exact .inr h)
 have hv2o:=M2.st.has.own
 have v2f:∀ k,v2.ownBlock=some k→k≠fb:=fun k hk=>(by rcases hnew2 k hk with h|h;omega;exact hCf k h)
 have RF:RSb g s n r2 v2 wF:=M2.st.keep (fun k hlt hk=>far k hlt (by rcases hk with rfl|hk;exact fun e=>hfg e.symm;exact v2f k hk))
 have LF:HasV 2 wF lvA lead.length (comV lead):=Lc.keep (fun k hk hlt=>(far k (by omega) (fun e=>fA (by rw[hk,e]))).trans (M2.keep.block k ⟨hlt,fun e=>gA (by rw[hk,e]),fun u hu e=>by rw[List.mem_singleton] at hu;subst hu;exact hCl k e hk⟩))
 have KF:Keep (Lv w.heap.size g [.slice al lead.length cl,blkV fb]) w wF:=(Kc.trans M2.keep (Lv.step Kc.size (one_mem NC))).trans (Q:=fun k=>k<w.heap.size∧k≠fb) ⟨oF.1.trans bE.os,oF.2.1.trans bE.tape,oF.2.2.trans bE.output,by omega,fun k hk=>far k (by have:=hk.1;omega) hk.2⟩ (fun k hk=>⟨hk.1,fun e=>hk.2.2 (blkV fb) (by simp) (by rw[e];rfl)⟩)
 have NF:NewV w.heap.size [.slice al lead.length cl,blkV fb] v2:=M2.new.trans Kc.size (one_mem NC)
 have N2:IsN R2 wF x2 [.int .i64 y0,.int .i64 y1,.int .i64 y2,.int .i64 y3,.string y4,.string y5,.string y6,.slice ya yb yc,.slice yd ye yf,.slice yg yh yi,.bool y7,.string y8]:=IsN.frame (fun b hb=>⟨hb,far b (M2.lt b hb) (by rcases hR2 b hb with h|h;omega;exact hCf b h)⟩) x2 _ M2.node
 have N1:IsN Rk wF xk [.int .i64 1,.int .i64 1,.int .i64 (-1),.int .i64 0,.string ⟨#[]⟩,.string ⟨#[]⟩,.string ⟨#[]⟩,.slice none 0 0,.slice none 0 0,.slice none 0 0,.bool false,.string ⟨#[]⟩]:=IsN.frame (fun b hb=>⟨hb,(far b (by have:=(hRk b hb).1;omega) (hRk b hb).2.2.2.1).trans (M2.keep.block b ⟨(hRk b hb).1,(hRk b hb).2.2.1,fun u hu e=>by rw[List.mem_singleton] at hu;subst hu;exact (hRk b hb).2.2.2.2.1 e⟩)⟩) xk _ Nk
 refine ⟨c2,r2,v2,rfl,RF,NF,KF,fun e=>v2f fb e rfl,?_⟩
 have hres:=M2.res
 rw[hov2]
 cases oV with
 | bad q k=>exact hres
 | ok y=>exact ⟨hres.1,(congrArg Prod.snd hres.2).symm,M2.wf _ rfl,(fun z hz=>by simp at hz;subst hz;exact hlk),by
  have hy:y.1=x2:=congrArg Prod.fst hres.2
  show ∃ lv kb m cap arr R,FndM g fb a w wF [.slice al lead.length cl,blkV fb] v2 lead [xk,y.1] lv kb m cap arr R
  rw[hy]
  exact ⟨lvA,wE.heap.size,2,2,#[.int .i64 1,.int .i64 1,.int .i64 (-1),.int .i64 0,.string ⟨#[]⟩,.string ⟨#[]⟩,.string ⟨#[]⟩,.slice none 0 0,.slice none 0 0,.slice none 0 0,.bool false,.string ⟨#[]⟩,.int .i64 y0,.int .i64 y1,.int .i64 y2,.int .i64 y3,.string y4,.string y5,.string y6,.slice ya yb yc,.slice yd ye yf,.slice yg yh yi,.bool y7,.string y8],fun k=>Rk k∨R2 k,⟨FF,LF,rF,⟨rfl,Nat.le_refl _,by decide,Nat.le_refl _⟩,IsKL.two (N1.frame' (fun b hb=>.inl hb)) (N2.frame' (fun b hb=>.inr hb)),⟨by omega,fun e=>by have:=hv2o _ e;omega,fun e=>by have:=LF.own _ e;have:=hownA _ e;omega⟩,⟨Na,gA,fA,fun k hk e=>by rcases hnew2 k e with h|h;have:=hownA k hk;omega;exact hCl k h hk⟩,fun k hk=>by
   rcases hk with hk|hk
   ·obtain ⟨q1,q2,q3,q4,q5,q6⟩:=hRk k hk
    exact ⟨by omega,q2,by omega,fun e=>by rcases hnew2 k e with h|h;omega;exact q5 h,q6⟩
   ·have q1:=M2.lt k hk
    refine ⟨by omega,?_,by omega,(M2.ne k hk).2,fun e=>?_⟩
    ·rcases hR2 k hk with h|h
     ·omega
     ·exact hCw k h
    ·rcases hR2 k hk with h|h
     ·have:=hownA k e;omega
     ·exact hCl k h e⟩⟩⟩
set_option maxRecDepth 100000 in
set_option maxHeartbeats 3200000 in
theorem flField_key_nbad (w0:World) (hEv:Env w0) (g:Nat) (hg0:w0.heap.size≤g) (s:ByteArray) (hs:s.size≤10000) (n:Int) (col:Nat→Nat→Rd (NT × Nat)→Prop) (hcol:CollC w0 g s n col) (deep:Nat) (hd:deep≤90) (p fin fb:Nat) (a:Int) (lv:Value) (lead:Coms) (o:Rd (Coms × List NT × Rst)) (w:World) (h:RS g s n ⟨[],false,fin,p⟩ (.slice none 0 0) w) (hF:w.heap[fb]?=some (.cells #[.int .i64 a,lv,.slice none 0 0] 55 (0,0))) (hL:HasV 2 w lv lead.length (comV lead)) (hlg:lv.ownBlock≠some g) (hlf:lv.ownBlock≠some fb) (hfg:fb≠g) (_hll:lead.length≤20000) (hB:Bs w0 w [lv,blkV fb]) (hq:queryB s p=false) (hsg:signB s p false=false) (q0:Nat) (c0:Int) (hoK:nodeP s n col deep p (.bad q0 c0)) (hov:o=.bad q0 c0) :
  Calls Tryz.prog 17 #[.pointer (some ⟨g,0,none⟩),.pointer (some ⟨fb,0,none⟩),.int .i64 (deep:Int)] w fun e w'=>FldPost g s n fb a w [lv,blkV fb] o e w':=by
 have hg:=h.cells.lt
 have hwf:=h.ok
 have hfb:fb<w.heap.size:=(Array.getElem?_eq_some_iff.1 hF).1
 obtain ⟨al,cl,rfl⟩:=hL.form
 have CQ:=flQuery_is false g s n p (fin:Int) (.slice none 0 0) false w h.cells (by omega) hq
 have CE:∀ W,Calls Tryz.prog 30 #[] W fun e w'=>e=.returned (.agg #[.int .i64 1,.int .i64 1,.int .i64 (-1),.int .i64 0,.string ⟨#[]⟩,.string ⟨#[]⟩,.string ⟨#[]⟩,.slice none 0 0,.slice none 0 0,.slice none 0 0,.bool false,.string ⟨#[]⟩])∧Below W.heap.size W w':=fun W=>flEmpty_is W
 go_enter Tryz.func17,Tryz.ntmps17
 go_upto_region 2 with (first
  | (go_at_call 24;refine CQ.mono ?_;rintro e w1 ⟨rfl,j1,rfl⟩)
  | (go_at_call 30;refine (CE _).mono ?_;rintro e w2 ⟨rfl,b2⟩))
 have b02:Below w.heap.size w w2:=(below_drewN (Below.refl _ _) j1:Below w.heap.size w (w.drewN j1)).trans b2
 have sz2:=b02.size
 obtain ⟨wA,hwA⟩:∃ wA,wA=w2.alloc (.cells #[.int .i64 1,.int .i64 1,.int .i64 (-1),.int .i64 0,.string ⟨#[]⟩,.string ⟨#[]⟩,.string ⟨#[]⟩,.slice none 0 0,.slice none 0 0,.slice none 0 0,.bool false,.string ⟨#[]⟩] 30):=⟨_,rfl⟩
 have z3:wA.heap.size=w2.heap.size+1:=by rw[hwA];simp
 have b3:Below w2.heap.size w2 wA:=by rw[hwA];exact (Below.refl _ _).alloc (Nat.le_refl _) _
 have ra:wA.heap[w2.heap.size]?=some (.cells #[.int .i64 1,.int .i64 1,.int .i64 (-1),.int .i64 0,.string ⟨#[]⟩,.string ⟨#[]⟩,.string ⟨#[]⟩,.slice none 0 0,.slice none 0 0,.slice none 0 0,.bool false,.string ⟨#[]⟩] 30 (0,0)):=by rw[hwA];exact heap_alloc_new w2 _
 have b03:Below w.heap.size w wA:=b02.trans (b3.mono sz2)
 rw[←hwA]
 clear hwA
 obtain ⟨nb,hnb⟩:∃ nb,nb=w2.heap.size:=⟨_,rfl⟩
 rw[←hnb] at ra z3 ⊢
 have hnb0:w.heap.size≤nb:=by omega
 have RSa:=h.below b03 (Nat.le_refl _)
 have Fa:=(b03.block fb hfb).trans hF
 have La:=hL.below b03 (Nat.le_refl _)
 have Ka:Keep (Lv w.heap.size g [.slice al lead.length cl,blkV fb]) w wA:=Keep.of b03 (fun k hk=>hk.1)
 have hownL:=hL.own
 have HNB:=Lib.hid hnb
 clear hnb b02 b3 b2 CE CQ b03 hF h hL
 obtain ⟨lvA,hlv⟩:∃ lvA,lvA=Value.slice al lead.length cl:=⟨_,rfl⟩
 have Na:NewV w.heap.size [.slice al lead.length cl,blkV fb] lvA:=fun k hk=>.inr ⟨Value.slice al lead.length cl,by simp,by rw[←hlv];exact hk⟩
 rw[←hlv] at La Fa hownL hlg hlf
 clear hlv
 have hnA:nb<wA.heap.size:=by omega
 have gA:lvA.ownBlock≠some g:=hlg
 have fA:lvA.ownBlock≠some fb:=hlf
 have kA:lvA.ownBlock≠some nb:=(fun e=>by have:=hownL nb e;omega)
 have hownA:=La.own
 have hfA:fb<wA.heap.size:=(Array.getElem?_eq_some_iff.1 Fa).1
 have hgA:=RSa.cells.lt
 have qnA:∀ j,wA.cell? ⟨nb,j,none⟩=(#[.int .i64 1,.int .i64 1,.int .i64 (-1),.int .i64 0,.string ⟨#[]⟩,.string ⟨#[]⟩,.string ⟨#[]⟩,.slice none 0 0,.slice none 0 0,.slice none 0 0,.bool false,.string ⟨#[]⟩]:Array Value)[j]?:=fun j=>cell_of_row wA _ j _ _ _ ra
 have CLA:=flColon_x false g s n p (fin:Int) (.slice none 0 0) false 1 1 (-1) 0 ⟨#[]⟩ ⟨#[]⟩ ⟨#[]⟩ none 0 0 none 0 0 none 0 0 false ⟨#[]⟩ wA RSa.cells (by omega) (by rw[show decide ((1:Int)=3∨(1:Int)=4∨(1:Int)=2∨(1:Int)=3)=false by decide];exact hsg)
 go_wp2_with fail
 refine CLA.mono ?_
 rintro e wB ⟨rfl,bB⟩
 have szB:=bB.size
 have RSb:=RSa.below bB (Nat.le_refl _)
 have Fb:=(bB.block fb hfA).trans Fa
 have Lb:=La.below bB (Nat.le_refl _)
 have rb:=(bB.block nb hnA).trans ra
 have Kb:Keep (Lv w.heap.size g [.slice al lead.length cl,blkV fb]) w wB:=Ka.trans (Keep.of bB (fun k hk=>hk)) (fun k hk=>Nat.lt_of_lt_of_le hk.1 Ka.size)
 have szKa:=Ka.size
 clear RSa Fa La ra Ka qnA CLA
 obtain ⟨wN,hwN⟩:∃ wN,wN=wB:=⟨_,rfl⟩
 have RSn:=RSb
 have Fn:=Fb
 have rn:=rb
 have Ln:=Lb
 have Kn:=Kb
 have szN:wN.heap.size=wB.heap.size:=by rw[hwN]
 rw[←hwN] at RSn Fn rn Ln Kn ⊢
 clear hwN RSb Fb rb Lb Kb
 have CNo:=flNode_is w0 hEv g hg0 s hs n col hcol deep p fin (.bad q0 c0) wN (by omega) RSn (hB.next hg0 Kn (fun u hu=>by cases hu)) hoK
 have szKn:=Kn.size
 go_upto_region 11 with (go_at_call 26;refine CNo.mono ?_;rintro e wP ⟨cs1,cP,rfl,x1,r1,v1,Rk,M1⟩;have rP:=(M1.keep.block nb ⟨by omega,by omega,fun u hu=>by cases hu⟩).trans rn;have qP:∀ j,wP.cell? ⟨nb,j,none⟩=(#[.int .i64 1,.int .i64 1,.int .i64 (-1),.int .i64 0,.string ⟨#[]⟩,.string ⟨#[]⟩,.string ⟨#[]⟩,.slice none 0 0,.slice none 0 0,.slice none 0 0,.bool false,.string ⟨#[]⟩]:Array Value)[j]?:=fun j=>cell_of_row wP _ j _ _ _ rP;have fP:∀ j,wP.frozen? ⟨nb,j,none⟩=false:=fun j=>frozen_of_row wP _ j _ _ rP;obtain ⟨kc0,kc1,kc2,kc3,kc4,kc5,kc6,kca,kcb,kcc,kcd,kce,kcf,kcg,kch,kci,kc7,kc8,rfl,hnear,-,-⟩:=M1.node.cellsK;have HM1:=Lib.hid M1;clear M1)
 obtain ⟨wR,hwR⟩:∃ wR,wR=((((((((((((wP.setCell ⟨nb,0,none⟩ (.int .i64 kc0)).setCell ⟨nb,1,none⟩ (.int .i64 kc1)).setCell ⟨nb,2,none⟩ (.int .i64 kc2)).setCell ⟨nb,3,none⟩ (.int .i64 kc3)).setCell ⟨nb,4,none⟩ (.string kc4)).setCell ⟨nb,5,none⟩ (.string kc5)).setCell ⟨nb,6,none⟩ (.string kc6)).setCell ⟨nb,7,none⟩ (.slice kca kcb kcc)).setCell ⟨nb,8,none⟩ (.slice kcd kce kcf)).setCell ⟨nb,9,none⟩ (.slice kcg kch kci)).setCell ⟨nb,10,none⟩ (.bool kc7)).setCell ⟨nb,11,none⟩ (.string kc8)):=⟨_,rfl⟩
 have rR:wR.heap[nb]?=some (.cells #[.int .i64 kc0,.int .i64 kc1,.int .i64 kc2,.int .i64 kc3,.string kc4,.string kc5,.string kc6,.slice kca kcb kcc,.slice kcd kce kcf,.slice kcg kch kci,.bool kc7,.string kc8] 30 (0,0)):=by rw[hwR];exact row12_set wP (hg:=rP) ..
 have zR:wR.heap.size=wP.heap.size:=by rw[hwR,row12_size]
 have sR:∀ k,¬ k=nb→wR.heap[k]?=wP.heap[k]?:=fun k hk=>by rw[hwR];exact row12_other wP _ k hk ..
 have bR:Below 0 wP wR:=by rw[hwR];exact row12_below wP _ _ (Nat.zero_le _) _ _ _ _ _ _ _ _ _ _ _ _
 rw[←hwR]
 clear hwR qP fP rP
 have M1:=HM1.out
 have szP:=M1.keep.size
 have hown1:=M1.st.has.own
 have hnew1:∀ k,v1.ownBlock=some k→wN.heap.size≤k:=fun k hk=>(by rcases M1.new k hk with h|⟨u,hu,_⟩;exact h;cases hu)
 have hR1:∀ k,Rk k→wN.heap.size≤k:=fun k hk=>(by rcases M1.own k hk with h|⟨u,hu,_⟩;exact h;cases hu)
 have hlt1:=M1.lt
 have hne1:=M1.ne
 have RSr:RSb g s n r1 v1 wR:=M1.st.keep (fun k hlt hk=>sR k (by rcases hk with rfl|hk;omega;have:=hnew1 k hk;omega))
 have Fr:=(sR fb (by omega)).trans ((M1.keep.block fb ⟨by omega,hfg,fun u hu=>by cases hu⟩).trans Fn)
 have Lr:HasV 2 wR lvA lead.length (comV lead):=Ln.keep (fun k hk hlt=>(sR k (fun e=>kA (by rw[hk,e]))).trans (M1.keep.block k ⟨hlt,fun e=>gA (by rw[hk,e]),fun u hu=>by cases hu⟩))
 have Kr:Keep (Lv w.heap.size g [.slice al lead.length cl,blkV fb]) w wR:=(Kn.trans M1.keep (Lv.step Kn.size (fun u hu=>by cases hu))).trans (Q:=fun k=>k<w.heap.size) ⟨bR.os,bR.tape,bR.output,by omega,fun k hk=>sR k (by omega)⟩ (fun k hk=>hk.1)
 have Nr:IsN Rk wR x1 [.int .i64 kc0,.int .i64 kc1,.int .i64 kc2,.int .i64 kc3,.string kc4,.string kc5,.string kc6,.slice kca kcb kcc,.slice kcd kce kcf,.slice kcg kch kci,.bool kc7,.string kc8]:=IsN.frame (fun b hb=>⟨hb,sR b (by have:=hR1 b hb;omega)⟩) x1 _ M1.node
 have N1v:NewV w.heap.size [.slice al lead.length cl,blkV fb] v1:=fun k hk=>.inl (by have:=hnew1 k hk;omega)
 have hxl:x1.h.lead.length≤40000:=M1.few rfl
 have hres1:=M1.res
 have hwf1:=M1.wf
 clear M1 HM1 CNo RSn Fn Ln Kn rn
 obtain ⟨ec,hc0,hq0⟩:=hres1
 have hcb:(cP != 0)=true:=by rw[bne,Bool.not_eq_eq_eq_not,Bool.not_true,beq_eq_false_iff_ne];exact hc0
 have HEC:=Lib.hid ec
 have HR:=Lib.hid (And.intro RSr (And.intro N1v Kr))
 clear ec RSr N1v Kr hwf1
 go_wp2
 go_ret
 obtain ⟨RSr,N1v,Kr⟩:=HR.out
 refine ⟨cP,r1,v1,rfl,RSr,N1v,Kr,fun e=>by have:=hnew1 fb e;omega,?_⟩
 rw[hov]
 exact ⟨HEC.out,hc0,hq0⟩
set_option maxRecDepth 100000 in
set_option maxHeartbeats 3200000 in
theorem flField_qkey_nbad (w0:World) (hEv:Env w0) (g:Nat) (hg0:w0.heap.size≤g) (s:ByteArray) (hs:s.size≤10000) (n:Int) (col:Nat→Nat→Rd (NT × Nat)→Prop) (hcol:CollC w0 g s n col) (deep:Nat) (hd:deep≤90) (p fin fb:Nat) (a:Int) (lv:Value) (lead:Coms) (o:Rd (Coms × List NT × Rst)) (w:World) (h:RS g s n ⟨[],false,fin,p⟩ (.slice none 0 0) w) (hF:w.heap[fb]?=some (.cells #[.int .i64 a,lv,.slice none 0 0] 55 (0,0))) (hL:HasV 2 w lv lead.length (comV lead)) (hlg:lv.ownBlock≠some g) (hlf:lv.ownBlock≠some fb) (hfg:fb≠g) (hll:lead.length≤20000) (hB:Bs w0 w [lv,blkV fb]) (hq:queryB s p=true) (b:Rst) (ho1:skipP s n (fresh (p+1)) (.ok b)) (hsg:signB s b.at' false=false) (hla:lacksB s b.at'=false) (q0:Nat) (c0:Int) (hoK:nodeP s n col deep b.at' (.bad q0 c0)) (hov:o=.bad q0 c0) :
  Calls Tryz.prog 17 #[.pointer (some ⟨g,0,none⟩),.pointer (some ⟨fb,0,none⟩),.int .i64 (deep:Int)] w fun e w'=>FldPost g s n fb a w [lv,blkV fb] o e w':=by
 have hg:=h.cells.lt
 have hwf:=h.ok
 have hfb:fb<w.heap.size:=(Array.getElem?_eq_some_iff.1 hF).1
 obtain ⟨al,cl,rfl⟩:=hL.form
 have CQ:=flQuery_is true g s n p (fin:Int) (.slice none 0 0) false w h.cells (by omega) hq
 have CE:∀ W,Calls Tryz.prog 30 #[] W fun e w'=>e=.returned (.agg #[.int .i64 1,.int .i64 1,.int .i64 (-1),.int .i64 0,.string ⟨#[]⟩,.string ⟨#[]⟩,.string ⟨#[]⟩,.slice none 0 0,.slice none 0 0,.slice none 0 0,.bool false,.string ⟨#[]⟩])∧Below W.heap.size W w':=fun W=>flEmpty_is W
 go_enter Tryz.func17,Tryz.ntmps17
 go_upto_region 2 with (first
  | (go_at_call 24;refine CQ.mono ?_;rintro e w1 ⟨rfl,j1,rfl⟩)
  | (go_at_call 30;refine (CE _).mono ?_;rintro e w2 ⟨rfl,b2⟩))
 have b02:Below w.heap.size w w2:=(below_drewN (Below.refl _ _) j1:Below w.heap.size w (w.drewN j1)).trans b2
 have sz2:=b02.size
 obtain ⟨w3,hw3⟩:∃ w3,w3=w2.alloc (.cells #[.int .i64 1,.int .i64 1,.int .i64 (-1),.int .i64 0,.string ⟨#[]⟩,.string ⟨#[]⟩,.string ⟨#[]⟩,.slice none 0 0,.slice none 0 0,.slice none 0 0,.bool false,.string ⟨#[]⟩] 30):=⟨_,rfl⟩
 have z3:w3.heap.size=w2.heap.size+1:=by rw[hw3];simp
 have b3:Below w2.heap.size w2 w3:=by rw[hw3];exact (Below.refl _ _).alloc (Nat.le_refl _) _
 have r3:w3.heap[w2.heap.size]?=some (.cells #[.int .i64 1,.int .i64 1,.int .i64 (-1),.int .i64 0,.string ⟨#[]⟩,.string ⟨#[]⟩,.string ⟨#[]⟩,.slice none 0 0,.slice none 0 0,.slice none 0 0,.bool false,.string ⟨#[]⟩] 30 (0,0)):=by rw[hw3];exact heap_alloc_new w2 _
 have b03:Below w.heap.size w w3:=b02.trans (b3.mono sz2)
 rw[←hw3]
 clear hw3
 obtain ⟨nb,hnb⟩:∃ nb,nb=w2.heap.size:=⟨_,rfl⟩
 rw[←hnb] at r3 z3 ⊢
 have hnb0:w.heap.size≤nb:=by omega
 have R3:=h.below b03 (Nat.le_refl _)
 have F3:=(b03.block fb hfb).trans hF
 have L3:=hL.below b03 (Nat.le_refl _)
 have K3:Keep (Lv w.heap.size g [.slice al lead.length cl,blkV fb]) w w3:=Keep.of b03 (fun k hk=>hk.1)
 have hownL:=hL.own
 have HNB:=Lib.hid hnb
 clear hnb b02 b3 b2 CE CQ b03 hF h hL
 have hlt:=query_lt hq
 have c3:=R3.cells.cell
 go_upto_region 5 with (first
  | (go_at_call 18;refine (flPass_is g s n _ _ ((p:Int)+1) (.slice none 0 0) false _ R3.cells).mono ?_;rintro e w4 ⟨rfl,h4,g4,z4⟩;have R4:RS g s n (fresh (p+1)) (.slice none 0 0) w4:=RS.bare (by rw[show ((p+1:Nat):Int)=(p:Int)+1 by omega];exact h4) (Nat.le_refl _) hlt;have K4:Keep (Lv w.heap.size g [.slice al lead.length cl,blkV fb]) w w4:=K3.trans (Q:=fun k=>k<w3.heap.size∧k≠g) ⟨g4.os,g4.tape,g4.output,by omega,fun k hk=>g4.block k hk.1 (fun e=>hk.2 (by injection e))⟩ (fun k hk=>⟨by have:=hk.1;omega,hk.2.1⟩);have F4:=(g4.block fb (by omega) (fun e=>hfg (by injection e))).trans F3;have L4:=L3.grown g4 (.inr hlg);have r4:=(g4.block nb (by omega) (fun e=>by injection e with e;omega)).trans r3)
  | (go_at_call 19;refine (flSkip_of g s n (fresh (p+1)) (.slice none 0 0) (.ok b) _ R4 hs ho1).mono ?_;rintro e w5 ⟨c5,v5,r5,rfl,R5,n5,K45,res5⟩;obtain ⟨rfl,rfl⟩:=res5))
 have hm45:∀ k,k<w4.heap.size→k≠g→w5.heap[k]?=w4.heap[k]?:=fun k hk hne=>K45.block k ⟨hk,hne,fun u hu e=>by rw[List.mem_singleton] at hu;subst hu;cases e⟩
 have sz45:=K45.size
 have V5:∀ k,v5.ownBlock=some k→w4.heap.size≤k∧k<w5.heap.size:=fun k hk=>⟨(by rcases n5 k hk with h|⟨u,hu,h⟩;exact h;rw[List.mem_singleton] at hu;subst hu;cases h),R5.has.own k hk⟩
 have K5:Keep (Lv w.heap.size g [.slice al lead.length cl,blkV fb]) w w5:=K4.trans (Q:=fun k=>k<w4.heap.size∧k≠g) ⟨K45.os,K45.tape,K45.output,sz45,fun k hk=>hm45 k hk.1 hk.2⟩ (fun k hk=>⟨by have:=hk.1;omega,hk.2.1⟩)
 have N5:NewV w.heap.size [.slice al lead.length cl,blkV fb] v5:=fun k hk=>.inl (by have:=V5 k hk;omega)
 obtain ⟨a5,c5',rfl⟩:=R5.has.form
 have A5:=R5.cells
 have wf5:=R5.ok
 have H5:=R5.has
 have ap5:=R5.apart
 have L5:HasV 2 w5 (.slice al lead.length cl) lead.length (comV lead):=L4.keep fun k hk hlt=>hm45 k hlt (fun e=>hlg (by rw[hk,e]))
 have F5:=(hm45 fb (by omega) hfg).trans F4
 have r5':=(hm45 nb (by omega) (by omega)).trans r4
 have hbl:r5.l.length≤10000:=by have:=wf5.few;have:=wf5.top;omega
 have HL5:=Lib.hid L5
 have HH5:=Lib.hid H5
 have HK5:=Lib.hid (And.intro K5 hm45)
 have hown5:=H5.own
 have K5sz:=K5.size
 obtain ⟨X,hX⟩:∃ X,lead++r5.l=X:=⟨_,rfl⟩
 have HX:=Lib.hid hX
 have cf5:∀ j,w5.cell? ⟨fb,j,none⟩=(#[.int .i64 a,.slice al lead.length cl,.slice none 0 0]:Array Value)[j]?:=fun j=>cell_of_row w5 _ j _ _ _ F5
 have ff5:∀ j,w5.frozen? ⟨fb,j,none⟩=false:=fun j=>frozen_of_row w5 _ j _ _ F5
 clear hX R5 K5 K45 K4 K3 R4 R3 n5 L5 L4 L3 H5 F3 F4 r3 r4 hm45 N5
 go_upto_region 7 with fail
 go_cut [36] (fun v36 wA=>∃ lv2,RS g s n ⟨[],false,r5.fin,r5.at'⟩ (.slice none 0 0) wA∧wA.heap[fb]?=some (.cells #[.int .i64 a,lv2,.slice none 0 0] 55 (0,0))∧HasV 2 wA lv2 X.length (comV X)∧(lv2.ownBlock=(Value.slice al lead.length cl).ownBlock∨∃ k,lv2.ownBlock=some k∧w5.heap.size≤k)∧Keep (Lv w.heap.size g [.slice al lead.length cl,blkV fb]) w wA∧wA.heap[nb]?=some (.cells #[.int .i64 1,.int .i64 1,.int .i64 (-1),.int .i64 0,.string ⟨#[]⟩,.string ⟨#[]⟩,.string ⟨#[]⟩,.slice none 0 0,.slice none 0 0,.slice none 0 0,.bool false,.string ⟨#[]⟩] 30 (0,0))∧w5.heap.size≤wA.heap.size)
 case first=>
  go_region_law (first
   | (go_simp;go_at_call 20;refine (flTake_is g s n _ _ a5 r5.l.length c5' r5.same w5.drew A5).mono ?_;rintro e w6 ⟨rfl,h6,g6,z6⟩;have cf6:w6.cell? ⟨fb,1,none⟩=some (.slice al lead.length cl):=(World.cell?_of_block (a:=⟨fb,1,none⟩) (g6.block fb (by show fb<w5.heap.size;omega) (fun e=>hfg (by injection e)))).trans (cf5 1))
   | (refine step_appendH rfl _ _ rfl _ (.slice al lead.length cl) (.slice a5 r5.l.length c5') lead r5.l rfl rfl ((HL5.out.keep (w':=w5.drew) (fun _ _ _=>rfl)).grown g6 (.inr hlg)) ((HH5.out.keep (w':=w5.drew) (fun _ _ _=>rfl)).grown g6 (.inr ap5)).toComs (by omega) ?_;intro v7 w7 o7 g7 n7;rw[HX.out] at o7;obtain ⟨a7,c7,rfl⟩:=o7.form;have F7:=(g7.block fb (by rw[z6];show fb<w5.heap.size;omega) (fun e=>hlf e.symm)).trans ((g6.block fb (by show fb<w5.heap.size;omega) (fun e=>hfg (by injection e))).trans F5);have cf7:∀ j,w7.cell? ⟨fb,j,none⟩=(#[.int .i64 a,.slice al lead.length cl,.slice none 0 0]:Array Value)[j]?:=fun j=>cell_of_row w7 _ j _ _ _ F7;have ff7:∀ j,w7.frozen? ⟨fb,j,none⟩=false:=fun j=>frozen_of_row w7 _ j _ _ F7))
  all_goals
   have G6:w5.grownBy w6 (some g):=⟨g6.os,g6.tape,g6.output,g6.size,g6.block⟩
   have Z6:w6.heap.size=w5.heap.size:=z6
   have HH:=Lib.hid (And.intro G6 (And.intro g7 (And.intro n7 (And.intro o7 (And.intro F7 h6)))))
   clear g6 z6 G6 g7 n7 o7 h6 F7 cf6 cf7 ff7
   go_wp2
   go_meet
   case rel=>
    obtain ⟨G6,g7,n7,o7,F7,h6⟩:=HH.out
    obtain ⟨K5,hm45⟩:=HK5.out
    have sz7:=g7.size
    have hs:∀ k,k≠fb→(w7.setCell ⟨fb,1,none⟩ (.slice a7 X.length c7)).heap[k]?=w7.heap[k]?:=fun k hk=>heap_setCell_other _ _ _ _ hk
    have n7':∀ k,(Value.slice a7 X.length c7).ownBlock=some k→(Value.slice al lead.length cl).ownBlock=some k∨k=w6.heap.size:=fun k hk=>(by rcases n7 with e|e;exact .inl (e.symm.trans hk);rw[e] at hk;injection hk with hk;exact .inr hk.symm)
    refine ⟨.slice a7 X.length c7,RS.bare ((hs g (fun e=>hfg e.symm)).trans (h6.grown g7 hlg)) wf5.le wf5.top,heap_setCell_same _ _ 1 _ _ _ F7,o7.keep (fun k hk _=>hs k (by rcases n7' k hk with e|e;exact fun e2=>hlf (by rw[e,e2]);omega)),?_,?_,?_,by simp[World.setCell];omega⟩
    ·rcases n7 with e|e
     ·exact .inl e
     ·exact .inr ⟨_,e,by omega⟩
    ·exact K5.trans (Q:=fun k=>k<w.heap.size∧k≠g∧k≠fb∧(Value.slice al lead.length cl).ownBlock≠some k) ⟨g7.os.trans G6.os,g7.tape.trans G6.tape,g7.output.trans G6.output,by simp[World.setCell];omega,fun k hk=>(hs k hk.2.2.1).trans ((g7.block k (by have:=hk.1;omega) (fun e=>hk.2.2.2 e.symm)).trans (G6.block k (by have:=hk.1;omega) (fun e=>hk.2.1 (by injection e))))⟩ (fun k hk=>⟨hk.1,hk.2.1,fun e=>hk.2.2 (blkV fb) (by simp) (by rw[e];rfl),hk.2.2 _ (by simp)⟩)
    ·rw[hs nb (by omega),g7.block nb (by omega) (fun e=>by have:=hownL nb e.symm;omega),G6.block nb (by omega) (fun e=>by injection e with e;omega)]
     exact r5'
 case rest=>
  rename World=>wA
  obtain ⟨lvA,RSa,Fa,La,Oa,Ka,ra,szA⟩:=hcut
  have Na:NewV w.heap.size [.slice al lead.length cl,blkV fb] lvA:=fun k hk=>(by rcases Oa with e|⟨k2,e,h2⟩;exact .inr ⟨_,by simp,e.symm.trans hk⟩;rw[e] at hk;injection hk with hk;exact .inl (by have:=K5sz;omega))
  have hnA:nb<wA.heap.size:=by omega
  have gA:lvA.ownBlock≠some g:=(by rcases Oa with e|⟨k,e,h⟩;rw[e];exact hlg;rw[e];intro e2;injection e2 with e2;omega)
  have fA:lvA.ownBlock≠some fb:=(by rcases Oa with e|⟨k,e,h⟩;rw[e];exact hlf;rw[e];intro e2;injection e2 with e2;omega)
  have kA:lvA.ownBlock≠some nb:=(by rcases Oa with e|⟨k,e,h⟩;rw[e];intro e2;have:=hownL nb e2;omega;rw[e];intro e2;injection e2 with e2;omega)
  have hownA:=La.own
  have hfA:fb<wA.heap.size:=(Array.getElem?_eq_some_iff.1 Fa).1
  have hgA:=RSa.cells.lt
  have qnA:∀ j,wA.cell? ⟨nb,j,none⟩=(#[.int .i64 1,.int .i64 1,.int .i64 (-1),.int .i64 0,.string ⟨#[]⟩,.string ⟨#[]⟩,.string ⟨#[]⟩,.slice none 0 0,.slice none 0 0,.slice none 0 0,.bool false,.string ⟨#[]⟩]:Array Value)[j]?:=fun j=>cell_of_row wA _ j _ _ _ ra
  have CLA:=flColon_x false g s n r5.at' (r5.fin:Int) (.slice none 0 0) false 1 1 (-1) 0 ⟨#[]⟩ ⟨#[]⟩ ⟨#[]⟩ none 0 0 none 0 0 none 0 0 false ⟨#[]⟩ wA RSa.cells (by omega) (by rw[show decide ((1:Int)=3∨(1:Int)=4∨(1:Int)=2∨(1:Int)=3)=false by decide];exact hsg)
  go_wp2_with fail
  refine CLA.mono ?_
  rintro e wB ⟨rfl,bB⟩
  have szB:=bB.size
  have RSb:=RSa.below bB (Nat.le_refl _)
  have Fb:=(bB.block fb hfA).trans Fa
  have Lb:=La.below bB (Nat.le_refl _)
  have rb:=(bB.block nb hnA).trans ra
  have Kb:Keep (Lv w.heap.size g [.slice al lead.length cl,blkV fb]) w wB:=Ka.trans (Keep.of bB (fun k hk=>hk)) (fun k hk=>Nat.lt_of_lt_of_le hk.1 Ka.size)
  have szKa:=Ka.size
  clear RSa Fa La ra Ka qnA CLA
  have CEN:=flEnds_is false g s n r5.at' (r5.fin:Int) (.slice none 0 0) false wB RSb.cells (by omega) hla
  go_wp2_with fail
  refine CEN.mono ?_
  rintro e wB' ⟨rfl,jB,rfl⟩
  obtain ⟨wN,hwN⟩:∃ wN,wN=wB.drewN jB:=⟨_,rfl⟩
  have RSn:=RSb.drewN jB
  have Fn:(wB.drewN jB).heap[fb]?=_:=Fb
  have rn:(wB.drewN jB).heap[nb]?=_:=rb
  have Ln:HasV 2 (wB.drewN jB) lvA X.length (comV X):=Lb.keep (fun _ _ _=>rfl)
  have Kn:=Kb.drewN jB
  have szN:(wB.drewN jB).heap.size=wB.heap.size:=rfl
  rw[←hwN] at RSn Fn rn Ln Kn szN ⊢
  clear hwN CEN RSb Fb rb Lb Kb
  have CNo:=flNode_is w0 hEv g hg0 s hs n col hcol deep r5.at' r5.fin (.bad q0 c0) wN (by omega) RSn (hB.next hg0 Kn (fun u hu=>by cases hu)) hoK
  have szKn:=Kn.size
  go_upto_region 11 with (go_at_call 26;refine CNo.mono ?_;rintro e wP ⟨cs1,cP,rfl,x1,r1,v1,Rk,M1⟩;have rP:=(M1.keep.block nb ⟨by omega,by omega,fun u hu=>by cases hu⟩).trans rn;have qP:∀ j,wP.cell? ⟨nb,j,none⟩=(#[.int .i64 1,.int .i64 1,.int .i64 (-1),.int .i64 0,.string ⟨#[]⟩,.string ⟨#[]⟩,.string ⟨#[]⟩,.slice none 0 0,.slice none 0 0,.slice none 0 0,.bool false,.string ⟨#[]⟩]:Array Value)[j]?:=fun j=>cell_of_row wP _ j _ _ _ rP;have fP:∀ j,wP.frozen? ⟨nb,j,none⟩=false:=fun j=>frozen_of_row wP _ j _ _ rP;obtain ⟨kc0,kc1,kc2,kc3,kc4,kc5,kc6,kca,kcb,kcc,kcd,kce,kcf,kcg,kch,kci,kc7,kc8,rfl,hnear,-,-⟩:=M1.node.cellsK;have HM1:=Lib.hid M1;clear M1)
  obtain ⟨wR,hwR⟩:∃ wR,wR=((((((((((((wP.setCell ⟨nb,0,none⟩ (.int .i64 kc0)).setCell ⟨nb,1,none⟩ (.int .i64 kc1)).setCell ⟨nb,2,none⟩ (.int .i64 kc2)).setCell ⟨nb,3,none⟩ (.int .i64 kc3)).setCell ⟨nb,4,none⟩ (.string kc4)).setCell ⟨nb,5,none⟩ (.string kc5)).setCell ⟨nb,6,none⟩ (.string kc6)).setCell ⟨nb,7,none⟩ (.slice kca kcb kcc)).setCell ⟨nb,8,none⟩ (.slice kcd kce kcf)).setCell ⟨nb,9,none⟩ (.slice kcg kch kci)).setCell ⟨nb,10,none⟩ (.bool kc7)).setCell ⟨nb,11,none⟩ (.string kc8)):=⟨_,rfl⟩
  have rR:wR.heap[nb]?=some (.cells #[.int .i64 kc0,.int .i64 kc1,.int .i64 kc2,.int .i64 kc3,.string kc4,.string kc5,.string kc6,.slice kca kcb kcc,.slice kcd kce kcf,.slice kcg kch kci,.bool kc7,.string kc8] 30 (0,0)):=by rw[hwR];exact row12_set wP (hg:=rP) ..
  have zR:wR.heap.size=wP.heap.size:=by rw[hwR,row12_size]
  have sR:∀ k,¬ k=nb→wR.heap[k]?=wP.heap[k]?:=fun k hk=>by rw[hwR];exact row12_other wP _ k hk ..
  have bR:Below 0 wP wR:=by rw[hwR];exact row12_below wP _ _ (Nat.zero_le _) _ _ _ _ _ _ _ _ _ _ _ _
  rw[←hwR]
  clear hwR qP fP rP
  have M1:=HM1.out
  have szP:=M1.keep.size
  have hown1:=M1.st.has.own
  have hnew1:∀ k,v1.ownBlock=some k→wN.heap.size≤k:=fun k hk=>(by rcases M1.new k hk with h|⟨u,hu,_⟩;exact h;cases hu)
  have hR1:∀ k,Rk k→wN.heap.size≤k:=fun k hk=>(by rcases M1.own k hk with h|⟨u,hu,_⟩;exact h;cases hu)
  have hlt1:=M1.lt
  have hne1:=M1.ne
  have RSr:RSb g s n r1 v1 wR:=M1.st.keep (fun k hlt hk=>sR k (by rcases hk with rfl|hk;omega;have:=hnew1 k hk;omega))
  have Fr:=(sR fb (by omega)).trans ((M1.keep.block fb ⟨by omega,hfg,fun u hu=>by cases hu⟩).trans Fn)
  have Lr:HasV 2 wR lvA X.length (comV X):=Ln.keep (fun k hk hlt=>(sR k (fun e=>kA (by rw[hk,e]))).trans (M1.keep.block k ⟨hlt,fun e=>gA (by rw[hk,e]),fun u hu=>by cases hu⟩))
  have Kr:Keep (Lv w.heap.size g [.slice al lead.length cl,blkV fb]) w wR:=(Kn.trans M1.keep (Lv.step Kn.size (fun u hu=>by cases hu))).trans (Q:=fun k=>k<w.heap.size) ⟨bR.os,bR.tape,bR.output,by omega,fun k hk=>sR k (by omega)⟩ (fun k hk=>hk.1)
  have Nr:IsN Rk wR x1 [.int .i64 kc0,.int .i64 kc1,.int .i64 kc2,.int .i64 kc3,.string kc4,.string kc5,.string kc6,.slice kca kcb kcc,.slice kcd kce kcf,.slice kcg kch kci,.bool kc7,.string kc8]:=IsN.frame (fun b hb=>⟨hb,sR b (by have:=hR1 b hb;omega)⟩) x1 _ M1.node
  have N1v:NewV w.heap.size [.slice al lead.length cl,blkV fb] v1:=fun k hk=>.inl (by have:=hnew1 k hk;omega)
  have hxl:x1.h.lead.length≤40000:=M1.few rfl
  have hres1:=M1.res
  have hwf1:=M1.wf
  clear M1 HM1 CNo RSn Fn Ln Kn rn
  obtain ⟨ec,hc0,hq0⟩:=hres1
  have hcb:(cP != 0)=true:=by rw[bne,Bool.not_eq_eq_eq_not,Bool.not_true,beq_eq_false_iff_ne];exact hc0
  have HEC:=Lib.hid ec
  have HR:=Lib.hid (And.intro RSr (And.intro N1v Kr))
  clear ec RSr N1v Kr hwf1
  go_wp2
  go_ret
  obtain ⟨RSr,N1v,Kr⟩:=HR.out
  refine ⟨cP,r1,v1,rfl,RSr,N1v,Kr,fun e=>by have:=hnew1 fb e;omega,?_⟩
  rw[hov]
  exact ⟨HEC.out,hc0,hq0⟩
set_option maxRecDepth 100000 in
set_option maxHeartbeats 3200000 in
theorem flField_key_sbad (w0:World) (hEv:Env w0) (g:Nat) (hg0:w0.heap.size≤g) (s:ByteArray) (hs:s.size≤10000) (n:Int) (col:Nat→Nat→Rd (NT × Nat)→Prop) (hcol:CollC w0 g s n col) (deep:Nat) (hd:deep≤90) (p fin fb:Nat) (a:Int) (lv:Value) (lead:Coms) (o:Rd (Coms × List NT × Rst)) (w:World) (h:RS g s n ⟨[],false,fin,p⟩ (.slice none 0 0) w) (hF:w.heap[fb]?=some (.cells #[.int .i64 a,lv,.slice none 0 0] 55 (0,0))) (hL:HasV 2 w lv lead.length (comV lead)) (hlg:lv.ownBlock≠some g) (hlf:lv.ownBlock≠some fb) (hfg:fb≠g) (_hll:lead.length≤20000) (hB:Bs w0 w [lv,blkV fb]) (hq:queryB s p=false) (hsg:signB s p false=false) (xk:NT) (rK:Rst) (hoK:nodeP s n col deep p (.ok (xk,rK))) (q0:Nat) (c0:Int) (hoS:skipP s n rK (.bad q0 c0)) (hov:o=.bad q0 c0) :
  Calls Tryz.prog 17 #[.pointer (some ⟨g,0,none⟩),.pointer (some ⟨fb,0,none⟩),.int .i64 (deep:Int)] w fun e w'=>FldPost g s n fb a w [lv,blkV fb] o e w':=by
 have hg:=h.cells.lt
 have hwf:=h.ok
 have hfb:fb<w.heap.size:=(Array.getElem?_eq_some_iff.1 hF).1
 obtain ⟨al,cl,rfl⟩:=hL.form
 have CQ:=flQuery_is false g s n p (fin:Int) (.slice none 0 0) false w h.cells (by omega) hq
 have CE:∀ W,Calls Tryz.prog 30 #[] W fun e w'=>e=.returned (.agg #[.int .i64 1,.int .i64 1,.int .i64 (-1),.int .i64 0,.string ⟨#[]⟩,.string ⟨#[]⟩,.string ⟨#[]⟩,.slice none 0 0,.slice none 0 0,.slice none 0 0,.bool false,.string ⟨#[]⟩])∧Below W.heap.size W w':=fun W=>flEmpty_is W
 go_enter Tryz.func17,Tryz.ntmps17
 go_upto_region 2 with (first
  | (go_at_call 24;refine CQ.mono ?_;rintro e w1 ⟨rfl,j1,rfl⟩)
  | (go_at_call 30;refine (CE _).mono ?_;rintro e w2 ⟨rfl,b2⟩))
 have b02:Below w.heap.size w w2:=(below_drewN (Below.refl _ _) j1:Below w.heap.size w (w.drewN j1)).trans b2
 have sz2:=b02.size
 obtain ⟨wA,hwA⟩:∃ wA,wA=w2.alloc (.cells #[.int .i64 1,.int .i64 1,.int .i64 (-1),.int .i64 0,.string ⟨#[]⟩,.string ⟨#[]⟩,.string ⟨#[]⟩,.slice none 0 0,.slice none 0 0,.slice none 0 0,.bool false,.string ⟨#[]⟩] 30):=⟨_,rfl⟩
 have z3:wA.heap.size=w2.heap.size+1:=by rw[hwA];simp
 have b3:Below w2.heap.size w2 wA:=by rw[hwA];exact (Below.refl _ _).alloc (Nat.le_refl _) _
 have ra:wA.heap[w2.heap.size]?=some (.cells #[.int .i64 1,.int .i64 1,.int .i64 (-1),.int .i64 0,.string ⟨#[]⟩,.string ⟨#[]⟩,.string ⟨#[]⟩,.slice none 0 0,.slice none 0 0,.slice none 0 0,.bool false,.string ⟨#[]⟩] 30 (0,0)):=by rw[hwA];exact heap_alloc_new w2 _
 have b03:Below w.heap.size w wA:=b02.trans (b3.mono sz2)
 rw[←hwA]
 clear hwA
 obtain ⟨nb,hnb⟩:∃ nb,nb=w2.heap.size:=⟨_,rfl⟩
 rw[←hnb] at ra z3 ⊢
 have hnb0:w.heap.size≤nb:=by omega
 have RSa:=h.below b03 (Nat.le_refl _)
 have Fa:=(b03.block fb hfb).trans hF
 have La:=hL.below b03 (Nat.le_refl _)
 have Ka:Keep (Lv w.heap.size g [.slice al lead.length cl,blkV fb]) w wA:=Keep.of b03 (fun k hk=>hk.1)
 have hownL:=hL.own
 have HNB:=Lib.hid hnb
 clear hnb b02 b3 b2 CE CQ b03 hF h hL
 obtain ⟨lvA,hlv⟩:∃ lvA,lvA=Value.slice al lead.length cl:=⟨_,rfl⟩
 have Na:NewV w.heap.size [.slice al lead.length cl,blkV fb] lvA:=fun k hk=>.inr ⟨Value.slice al lead.length cl,by simp,by rw[←hlv];exact hk⟩
 rw[←hlv] at La Fa hownL hlg hlf
 clear hlv
 have hnA:nb<wA.heap.size:=by omega
 have gA:lvA.ownBlock≠some g:=hlg
 have fA:lvA.ownBlock≠some fb:=hlf
 have kA:lvA.ownBlock≠some nb:=(fun e=>by have:=hownL nb e;omega)
 have hownA:=La.own
 have hfA:fb<wA.heap.size:=(Array.getElem?_eq_some_iff.1 Fa).1
 have hgA:=RSa.cells.lt
 have qnA:∀ j,wA.cell? ⟨nb,j,none⟩=(#[.int .i64 1,.int .i64 1,.int .i64 (-1),.int .i64 0,.string ⟨#[]⟩,.string ⟨#[]⟩,.string ⟨#[]⟩,.slice none 0 0,.slice none 0 0,.slice none 0 0,.bool false,.string ⟨#[]⟩]:Array Value)[j]?:=fun j=>cell_of_row wA _ j _ _ _ ra
 have CLA:=flColon_x false g s n p (fin:Int) (.slice none 0 0) false 1 1 (-1) 0 ⟨#[]⟩ ⟨#[]⟩ ⟨#[]⟩ none 0 0 none 0 0 none 0 0 false ⟨#[]⟩ wA RSa.cells (by omega) (by rw[show decide ((1:Int)=3∨(1:Int)=4∨(1:Int)=2∨(1:Int)=3)=false by decide];exact hsg)
 go_wp2_with fail
 refine CLA.mono ?_
 rintro e wB ⟨rfl,bB⟩
 have szB:=bB.size
 have RSb:=RSa.below bB (Nat.le_refl _)
 have Fb:=(bB.block fb hfA).trans Fa
 have Lb:=La.below bB (Nat.le_refl _)
 have rb:=(bB.block nb hnA).trans ra
 have Kb:Keep (Lv w.heap.size g [.slice al lead.length cl,blkV fb]) w wB:=Ka.trans (Keep.of bB (fun k hk=>hk)) (fun k hk=>Nat.lt_of_lt_of_le hk.1 Ka.size)
 have szKa:=Ka.size
 clear RSa Fa La ra Ka qnA CLA
 obtain ⟨wN,hwN⟩:∃ wN,wN=wB:=⟨_,rfl⟩
 have RSn:=RSb
 have Fn:=Fb
 have rn:=rb
 have Ln:=Lb
 have Kn:=Kb
 have szN:wN.heap.size=wB.heap.size:=by rw[hwN]
 rw[←hwN] at RSn Fn rn Ln Kn ⊢
 clear hwN RSb Fb rb Lb Kb
 have CNo:=flNode_is w0 hEv g hg0 s hs n col hcol deep p fin (.ok (xk,rK)) wN (by omega) RSn (hB.next hg0 Kn (fun u hu=>by cases hu)) hoK
 have szKn:=Kn.size
 go_upto_region 11 with (go_at_call 26;refine CNo.mono ?_;rintro e wP ⟨cs1,cP,rfl,x1,r1,v1,Rk,M1⟩;have rP:=(M1.keep.block nb ⟨by omega,by omega,fun u hu=>by cases hu⟩).trans rn;have qP:∀ j,wP.cell? ⟨nb,j,none⟩=(#[.int .i64 1,.int .i64 1,.int .i64 (-1),.int .i64 0,.string ⟨#[]⟩,.string ⟨#[]⟩,.string ⟨#[]⟩,.slice none 0 0,.slice none 0 0,.slice none 0 0,.bool false,.string ⟨#[]⟩]:Array Value)[j]?:=fun j=>cell_of_row wP _ j _ _ _ rP;have fP:∀ j,wP.frozen? ⟨nb,j,none⟩=false:=fun j=>frozen_of_row wP _ j _ _ rP;obtain ⟨kc0,kc1,kc2,kc3,kc4,kc5,kc6,kca,kcb,kcc,kcd,kce,kcf,kcg,kch,kci,kc7,kc8,rfl,hnear,-,-⟩:=M1.node.cellsK;have HM1:=Lib.hid M1;clear M1)
 obtain ⟨wR,hwR⟩:∃ wR,wR=((((((((((((wP.setCell ⟨nb,0,none⟩ (.int .i64 kc0)).setCell ⟨nb,1,none⟩ (.int .i64 kc1)).setCell ⟨nb,2,none⟩ (.int .i64 kc2)).setCell ⟨nb,3,none⟩ (.int .i64 kc3)).setCell ⟨nb,4,none⟩ (.string kc4)).setCell ⟨nb,5,none⟩ (.string kc5)).setCell ⟨nb,6,none⟩ (.string kc6)).setCell ⟨nb,7,none⟩ (.slice kca kcb kcc)).setCell ⟨nb,8,none⟩ (.slice kcd kce kcf)).setCell ⟨nb,9,none⟩ (.slice kcg kch kci)).setCell ⟨nb,10,none⟩ (.bool kc7)).setCell ⟨nb,11,none⟩ (.string kc8)):=⟨_,rfl⟩
 have rR:wR.heap[nb]?=some (.cells #[.int .i64 kc0,.int .i64 kc1,.int .i64 kc2,.int .i64 kc3,.string kc4,.string kc5,.string kc6,.slice kca kcb kcc,.slice kcd kce kcf,.slice kcg kch kci,.bool kc7,.string kc8] 30 (0,0)):=by rw[hwR];exact row12_set wP (hg:=rP) ..
 have zR:wR.heap.size=wP.heap.size:=by rw[hwR,row12_size]
 have sR:∀ k,¬ k=nb→wR.heap[k]?=wP.heap[k]?:=fun k hk=>by rw[hwR];exact row12_other wP _ k hk ..
 have bR:Below 0 wP wR:=by rw[hwR];exact row12_below wP _ _ (Nat.zero_le _) _ _ _ _ _ _ _ _ _ _ _ _
 rw[←hwR]
 clear hwR qP fP rP
 have M1:=HM1.out
 have szP:=M1.keep.size
 have hown1:=M1.st.has.own
 have hnew1:∀ k,v1.ownBlock=some k→wN.heap.size≤k:=fun k hk=>(by rcases M1.new k hk with h|⟨u,hu,_⟩;exact h;cases hu)
 have hR1:∀ k,Rk k→wN.heap.size≤k:=fun k hk=>(by rcases M1.own k hk with h|⟨u,hu,_⟩;exact h;cases hu)
 have hlt1:=M1.lt
 have hne1:=M1.ne
 have RSr:RSb g s n r1 v1 wR:=M1.st.keep (fun k hlt hk=>sR k (by rcases hk with rfl|hk;omega;have:=hnew1 k hk;omega))
 have Fr:=(sR fb (by omega)).trans ((M1.keep.block fb ⟨by omega,hfg,fun u hu=>by cases hu⟩).trans Fn)
 have Lr:HasV 2 wR lvA lead.length (comV lead):=Ln.keep (fun k hk hlt=>(sR k (fun e=>kA (by rw[hk,e]))).trans (M1.keep.block k ⟨hlt,fun e=>gA (by rw[hk,e]),fun u hu=>by cases hu⟩))
 have Kr:Keep (Lv w.heap.size g [.slice al lead.length cl,blkV fb]) w wR:=(Kn.trans M1.keep (Lv.step Kn.size (fun u hu=>by cases hu))).trans (Q:=fun k=>k<w.heap.size) ⟨bR.os,bR.tape,bR.output,by omega,fun k hk=>sR k (by omega)⟩ (fun k hk=>hk.1)
 have Nr:IsN Rk wR x1 [.int .i64 kc0,.int .i64 kc1,.int .i64 kc2,.int .i64 kc3,.string kc4,.string kc5,.string kc6,.slice kca kcb kcc,.slice kcd kce kcf,.slice kcg kch kci,.bool kc7,.string kc8]:=IsN.frame (fun b hb=>⟨hb,sR b (by have:=hR1 b hb;omega)⟩) x1 _ M1.node
 have N1v:NewV w.heap.size [.slice al lead.length cl,blkV fb] v1:=fun k hk=>.inl (by have:=hnew1 k hk;omega)
 have hxl:x1.h.lead.length≤40000:=M1.few rfl
 have hres1:=M1.res
 have hwf1:=M1.wf
 clear M1 HM1 CNo RSn Fn Ln Kn rn
 obtain ⟨rfl,hee⟩:=hres1
 have ex:xk=x1:=congrArg Prod.fst hee
 have er:rK=r1:=congrArg Prod.snd hee
 clear hee
 subst ex
 subst er
 go_upto_region 14 with (go_at_call 19;refine (flSkip_of g s n rK v1 (.bad q0 c0) _ (RSr.rs (hwf1 _ rfl)) hs hoS).mono ?_;rintro e wC ⟨cS,vC,rS,rfl,RSc,nC,KC,resS⟩;obtain ⟨es,hcs,hqs⟩:=resS;have HES:=Lib.hid es;clear es;have hcb:(cS != 0)=true:=by rw[bne,Bool.not_eq_eq_eq_not,Bool.not_true,beq_eq_false_iff_ne];exact hcs)
 have szC:=KC.size
 have hownC:=RSc.has.own
 have hmC:∀ k,k<wR.heap.size→k≠g→v1.ownBlock≠some k→wC.heap[k]?=wR.heap[k]?:=fun k h1 h2 h3=>KC.block k ⟨h1,h2,fun u hu e=>by rw[List.mem_singleton] at hu;subst hu;exact h3 e⟩
 have hnC:∀ k,vC.ownBlock=some k→wN.heap.size≤k∧(wR.heap.size≤k∨v1.ownBlock=some k):=fun k hk=>(by rcases nC k hk with h|⟨u,hu,h⟩;exact ⟨by omega,.inl h⟩;rw[List.mem_singleton] at hu;subst hu;exact ⟨hnew1 k h,.inr h⟩)
 have Fc:=(hmC fb (by omega) hfg (fun e=>by have:=hnew1 fb e;omega)).trans Fr
 have rc:=(hmC nb (by omega) (by omega) (fun e=>by have:=hnew1 nb e;omega)).trans rR
 have Lc:HasV 2 wC lvA lead.length (comV lead):=Lr.keep (fun k hk hlt=>hmC k hlt (fun e=>gA (by rw[hk,e])) (fun e=>by have:=hnew1 k e;have:=hownA k hk;omega))
 have Kc:Keep (Lv w.heap.size g [.slice al lead.length cl,blkV fb]) w wC:=Kr.trans KC (Lv.step Kr.size (one_mem N1v))
 have NC:NewV w.heap.size [.slice al lead.length cl,blkV fb] vC:=nC.trans Kr.size (one_mem N1v)
 have szKr:=Kr.size
 have HR:=Lib.hid (And.intro RSc (And.intro NC Kc))
 clear RSc NC Kc KC Kr RSr
 go_wp2
 go_ret
 obtain ⟨RSc,NC,Kc⟩:=HR.out
 refine ⟨cS,rS,vC,rfl,RSc.b,NC,Kc,fun e=>by have:=(hnC fb e).1;omega,?_⟩
 rw[hov]
 exact ⟨HES.out,hcs,hqs⟩
set_option maxRecDepth 100000 in
set_option maxHeartbeats 3200000 in
theorem flField_qkey_sbad (w0:World) (hEv:Env w0) (g:Nat) (hg0:w0.heap.size≤g) (s:ByteArray) (hs:s.size≤10000) (n:Int) (col:Nat→Nat→Rd (NT × Nat)→Prop) (hcol:CollC w0 g s n col) (deep:Nat) (hd:deep≤90) (p fin fb:Nat) (a:Int) (lv:Value) (lead:Coms) (o:Rd (Coms × List NT × Rst)) (w:World) (h:RS g s n ⟨[],false,fin,p⟩ (.slice none 0 0) w) (hF:w.heap[fb]?=some (.cells #[.int .i64 a,lv,.slice none 0 0] 55 (0,0))) (hL:HasV 2 w lv lead.length (comV lead)) (hlg:lv.ownBlock≠some g) (hlf:lv.ownBlock≠some fb) (hfg:fb≠g) (hll:lead.length≤20000) (hB:Bs w0 w [lv,blkV fb]) (hq:queryB s p=true) (b:Rst) (ho1:skipP s n (fresh (p+1)) (.ok b)) (hsg:signB s b.at' false=false) (hla:lacksB s b.at'=false) (xk:NT) (rK:Rst) (hoK:nodeP s n col deep b.at' (.ok (xk,rK))) (q0:Nat) (c0:Int) (hoS:skipP s n rK (.bad q0 c0)) (hov:o=.bad q0 c0) :
  Calls Tryz.prog 17 #[.pointer (some ⟨g,0,none⟩),.pointer (some ⟨fb,0,none⟩),.int .i64 (deep:Int)] w fun e w'=>FldPost g s n fb a w [lv,blkV fb] o e w':=by
 have hg:=h.cells.lt
 have hwf:=h.ok
 have hfb:fb<w.heap.size:=(Array.getElem?_eq_some_iff.1 hF).1
 obtain ⟨al,cl,rfl⟩:=hL.form
 have CQ:=flQuery_is true g s n p (fin:Int) (.slice none 0 0) false w h.cells (by omega) hq
 have CE:∀ W,Calls Tryz.prog 30 #[] W fun e w'=>e=.returned (.agg #[.int .i64 1,.int .i64 1,.int .i64 (-1),.int .i64 0,.string ⟨#[]⟩,.string ⟨#[]⟩,.string ⟨#[]⟩,.slice none 0 0,.slice none 0 0,.slice none 0 0,.bool false,.string ⟨#[]⟩])∧Below W.heap.size W w':=fun W=>flEmpty_is W
 go_enter Tryz.func17,Tryz.ntmps17
 go_upto_region 2 with (first
  | (go_at_call 24;refine CQ.mono ?_;rintro e w1 ⟨rfl,j1,rfl⟩)
  | (go_at_call 30;refine (CE _).mono ?_;rintro e w2 ⟨rfl,b2⟩))
 have b02:Below w.heap.size w w2:=(below_drewN (Below.refl _ _) j1:Below w.heap.size w (w.drewN j1)).trans b2
 have sz2:=b02.size
 obtain ⟨w3,hw3⟩:∃ w3,w3=w2.alloc (.cells #[.int .i64 1,.int .i64 1,.int .i64 (-1),.int .i64 0,.string ⟨#[]⟩,.string ⟨#[]⟩,.string ⟨#[]⟩,.slice none 0 0,.slice none 0 0,.slice none 0 0,.bool false,.string ⟨#[]⟩] 30):=⟨_,rfl⟩
 have z3:w3.heap.size=w2.heap.size+1:=by rw[hw3];simp
 have b3:Below w2.heap.size w2 w3:=by rw[hw3];exact (Below.refl _ _).alloc (Nat.le_refl _) _
 have r3:w3.heap[w2.heap.size]?=some (.cells #[.int .i64 1,.int .i64 1,.int .i64 (-1),.int .i64 0,.string ⟨#[]⟩,.string ⟨#[]⟩,.string ⟨#[]⟩,.slice none 0 0,.slice none 0 0,.slice none 0 0,.bool false,.string ⟨#[]⟩] 30 (0,0)):=by rw[hw3];exact heap_alloc_new w2 _
 have b03:Below w.heap.size w w3:=b02.trans (b3.mono sz2)
 rw[←hw3]
 clear hw3
 obtain ⟨nb,hnb⟩:∃ nb,nb=w2.heap.size:=⟨_,rfl⟩
 rw[←hnb] at r3 z3 ⊢
 have hnb0:w.heap.size≤nb:=by omega
 have R3:=h.below b03 (Nat.le_refl _)
 have F3:=(b03.block fb hfb).trans hF
 have L3:=hL.below b03 (Nat.le_refl _)
 have K3:Keep (Lv w.heap.size g [.slice al lead.length cl,blkV fb]) w w3:=Keep.of b03 (fun k hk=>hk.1)
 have hownL:=hL.own
 have HNB:=Lib.hid hnb
 clear hnb b02 b3 b2 CE CQ b03 hF h hL
 have hlt:=query_lt hq
 have c3:=R3.cells.cell
 go_upto_region 5 with (first
  | (go_at_call 18;refine (flPass_is g s n _ _ ((p:Int)+1) (.slice none 0 0) false _ R3.cells).mono ?_;rintro e w4 ⟨rfl,h4,g4,z4⟩;have R4:RS g s n (fresh (p+1)) (.slice none 0 0) w4:=RS.bare (by rw[show ((p+1:Nat):Int)=(p:Int)+1 by omega];exact h4) (Nat.le_refl _) hlt;have K4:Keep (Lv w.heap.size g [.slice al lead.length cl,blkV fb]) w w4:=K3.trans (Q:=fun k=>k<w3.heap.size∧k≠g) ⟨g4.os,g4.tape,g4.output,by omega,fun k hk=>g4.block k hk.1 (fun e=>hk.2 (by injection e))⟩ (fun k hk=>⟨by have:=hk.1;omega,hk.2.1⟩);have F4:=(g4.block fb (by omega) (fun e=>hfg (by injection e))).trans F3;have L4:=L3.grown g4 (.inr hlg);have r4:=(g4.block nb (by omega) (fun e=>by injection e with e;omega)).trans r3)
  | (go_at_call 19;refine (flSkip_of g s n (fresh (p+1)) (.slice none 0 0) (.ok b) _ R4 hs ho1).mono ?_;rintro e w5 ⟨c5,v5,r5,rfl,R5,n5,K45,res5⟩;obtain ⟨rfl,rfl⟩:=res5))
 have hm45:∀ k,k<w4.heap.size→k≠g→w5.heap[k]?=w4.heap[k]?:=fun k hk hne=>K45.block k ⟨hk,hne,fun u hu e=>by rw[List.mem_singleton] at hu;subst hu;cases e⟩
 have sz45:=K45.size
 have V5:∀ k,v5.ownBlock=some k→w4.heap.size≤k∧k<w5.heap.size:=fun k hk=>⟨(by rcases n5 k hk with h|⟨u,hu,h⟩;exact h;rw[List.mem_singleton] at hu;subst hu;cases h),R5.has.own k hk⟩
 have K5:Keep (Lv w.heap.size g [.slice al lead.length cl,blkV fb]) w w5:=K4.trans (Q:=fun k=>k<w4.heap.size∧k≠g) ⟨K45.os,K45.tape,K45.output,sz45,fun k hk=>hm45 k hk.1 hk.2⟩ (fun k hk=>⟨by have:=hk.1;omega,hk.2.1⟩)
 have N5:NewV w.heap.size [.slice al lead.length cl,blkV fb] v5:=fun k hk=>.inl (by have:=V5 k hk;omega)
 obtain ⟨a5,c5',rfl⟩:=R5.has.form
 have A5:=R5.cells
 have wf5:=R5.ok
 have H5:=R5.has
 have ap5:=R5.apart
 have L5:HasV 2 w5 (.slice al lead.length cl) lead.length (comV lead):=L4.keep fun k hk hlt=>hm45 k hlt (fun e=>hlg (by rw[hk,e]))
 have F5:=(hm45 fb (by omega) hfg).trans F4
 have r5':=(hm45 nb (by omega) (by omega)).trans r4
 have hbl:r5.l.length≤10000:=by have:=wf5.few;have:=wf5.top;omega
 have HL5:=Lib.hid L5
 have HH5:=Lib.hid H5
 have HK5:=Lib.hid (And.intro K5 hm45)
 have hown5:=H5.own
 have K5sz:=K5.size
 obtain ⟨X,hX⟩:∃ X,lead++r5.l=X:=⟨_,rfl⟩
 have HX:=Lib.hid hX
 have cf5:∀ j,w5.cell? ⟨fb,j,none⟩=(#[.int .i64 a,.slice al lead.length cl,.slice none 0 0]:Array Value)[j]?:=fun j=>cell_of_row w5 _ j _ _ _ F5
 have ff5:∀ j,w5.frozen? ⟨fb,j,none⟩=false:=fun j=>frozen_of_row w5 _ j _ _ F5
 clear hX R5 K5 K45 K4 K3 R4 R3 n5 L5 L4 L3 H5 F3 F4 r3 r4 hm45 N5
 go_upto_region 7 with fail
 go_cut [36] (fun v36 wA=>∃ lv2,RS g s n ⟨[],false,r5.fin,r5.at'⟩ (.slice none 0 0) wA∧wA.heap[fb]?=some (.cells #[.int .i64 a,lv2,.slice none 0 0] 55 (0,0))∧HasV 2 wA lv2 X.length (comV X)∧(lv2.ownBlock=(Value.slice al lead.length cl).ownBlock∨∃ k,lv2.ownBlock=some k∧w5.heap.size≤k)∧Keep (Lv w.heap.size g [.slice al lead.length cl,blkV fb]) w wA∧wA.heap[nb]?=some (.cells #[.int .i64 1,.int .i64 1,.int .i64 (-1),.int .i64 0,.string ⟨#[]⟩,.string ⟨#[]⟩,.string ⟨#[]⟩,.slice none 0 0,.slice none 0 0,.slice none 0 0,.bool false,.string ⟨#[]⟩] 30 (0,0))∧w5.heap.size≤wA.heap.size)
 case first=>
  go_region_law (first
   | (go_simp;go_at_call 20;refine (flTake_is g s n _ _ a5 r5.l.length c5' r5.same w5.drew A5).mono ?_;rintro e w6 ⟨rfl,h6,g6,z6⟩;have cf6:w6.cell? ⟨fb,1,none⟩=some (.slice al lead.length cl):=(World.cell?_of_block (a:=⟨fb,1,none⟩) (g6.block fb (by show fb<w5.heap.size;omega) (fun e=>hfg (by injection e)))).trans (cf5 1))
   | (refine step_appendH rfl _ _ rfl _ (.slice al lead.length cl) (.slice a5 r5.l.length c5') lead r5.l rfl rfl ((HL5.out.keep (w':=w5.drew) (fun _ _ _=>rfl)).grown g6 (.inr hlg)) ((HH5.out.keep (w':=w5.drew) (fun _ _ _=>rfl)).grown g6 (.inr ap5)).toComs (by omega) ?_;intro v7 w7 o7 g7 n7;rw[HX.out] at o7;obtain ⟨a7,c7,rfl⟩:=o7.form;have F7:=(g7.block fb (by rw[z6];show fb<w5.heap.size;omega) (fun e=>hlf e.symm)).trans ((g6.block fb (by show fb<w5.heap.size;omega) (fun e=>hfg (by injection e))).trans F5);have cf7:∀ j,w7.cell? ⟨fb,j,none⟩=(#[.int .i64 a,.slice al lead.length cl,.slice none 0 0]:Array Value)[j]?:=fun j=>cell_of_row w7 _ j _ _ _ F7;have ff7:∀ j,w7.frozen? ⟨fb,j,none⟩=false:=fun j=>frozen_of_row w7 _ j _ _ F7))
  all_goals
   have G6:w5.grownBy w6 (some g):=⟨g6.os,g6.tape,g6.output,g6.size,g6.block⟩
   have Z6:w6.heap.size=w5.heap.size:=z6
   have HH:=Lib.hid (And.intro G6 (And.intro g7 (And.intro n7 (And.intro o7 (And.intro F7 h6)))))
   clear g6 z6 G6 g7 n7 o7 h6 F7 cf6 cf7 ff7
   go_wp2
   go_meet
   case rel=>
    obtain ⟨G6,g7,n7,o7,F7,h6⟩:=HH.out
    obtain ⟨K5,hm45⟩:=HK5.out
    have sz7:=g7.size
    have hs:∀ k,k≠fb→(w7.setCell ⟨fb,1,none⟩ (.slice a7 X.length c7)).heap[k]?=w7.heap[k]?:=fun k hk=>heap_setCell_other _ _ _ _ hk
    have n7':∀ k,(Value.slice a7 X.length c7).ownBlock=some k→(Value.slice al lead.length cl).ownBlock=some k∨k=w6.heap.size:=fun k hk=>(by rcases n7 with e|e;exact .inl (e.symm.trans hk);rw[e] at hk;injection hk with hk;exact .inr hk.symm)
    refine ⟨.slice a7 X.length c7,RS.bare ((hs g (fun e=>hfg e.symm)).trans (h6.grown g7 hlg)) wf5.le wf5.top,heap_setCell_same _ _ 1 _ _ _ F7,o7.keep (fun k hk _=>hs k (by rcases n7' k hk with e|e;exact fun e2=>hlf (by rw[e,e2]);omega)),?_,?_,?_,by simp[World.setCell];omega⟩
    ·rcases n7 with e|e
     ·exact .inl e
     ·exact .inr ⟨_,e,by omega⟩
    ·exact K5.trans (Q:=fun k=>k<w.heap.size∧k≠g∧k≠fb∧(Value.slice al lead.length cl).ownBlock≠some k) ⟨g7.os.trans G6.os,g7.tape.trans G6.tape,g7.output.trans G6.output,by simp[World.setCell];omega,fun k hk=>(hs k hk.2.2.1).trans ((g7.block k (by have:=hk.1;omega) (fun e=>hk.2.2.2 e.symm)).trans (G6.block k (by have:=hk.1;omega) (fun e=>hk.2.1 (by injection e))))⟩ (fun k hk=>⟨hk.1,hk.2.1,fun e=>hk.2.2 (blkV fb) (by simp) (by rw[e];rfl),hk.2.2 _ (by simp)⟩)
    ·rw[hs nb (by omega),g7.block nb (by omega) (fun e=>by have:=hownL nb e.symm;omega),G6.block nb (by omega) (fun e=>by injection e with e;omega)]
     exact r5'
 case rest=>
  rename World=>wA
  obtain ⟨lvA,RSa,Fa,La,Oa,Ka,ra,szA⟩:=hcut
  have Na:NewV w.heap.size [.slice al lead.length cl,blkV fb] lvA:=fun k hk=>(by rcases Oa with e|⟨k2,e,h2⟩;exact .inr ⟨_,by simp,e.symm.trans hk⟩;rw[e] at hk;injection hk with hk;exact .inl (by have:=K5sz;omega))
  have hnA:nb<wA.heap.size:=by omega
  have gA:lvA.ownBlock≠some g:=(by rcases Oa with e|⟨k,e,h⟩;rw[e];exact hlg;rw[e];intro e2;injection e2 with e2;omega)
  have fA:lvA.ownBlock≠some fb:=(by rcases Oa with e|⟨k,e,h⟩;rw[e];exact hlf;rw[e];intro e2;injection e2 with e2;omega)
  have kA:lvA.ownBlock≠some nb:=(by rcases Oa with e|⟨k,e,h⟩;rw[e];intro e2;have:=hownL nb e2;omega;rw[e];intro e2;injection e2 with e2;omega)
  have hownA:=La.own
  have hfA:fb<wA.heap.size:=(Array.getElem?_eq_some_iff.1 Fa).1
  have hgA:=RSa.cells.lt
  have qnA:∀ j,wA.cell? ⟨nb,j,none⟩=(#[.int .i64 1,.int .i64 1,.int .i64 (-1),.int .i64 0,.string ⟨#[]⟩,.string ⟨#[]⟩,.string ⟨#[]⟩,.slice none 0 0,.slice none 0 0,.slice none 0 0,.bool false,.string ⟨#[]⟩]:Array Value)[j]?:=fun j=>cell_of_row wA _ j _ _ _ ra
  have CLA:=flColon_x false g s n r5.at' (r5.fin:Int) (.slice none 0 0) false 1 1 (-1) 0 ⟨#[]⟩ ⟨#[]⟩ ⟨#[]⟩ none 0 0 none 0 0 none 0 0 false ⟨#[]⟩ wA RSa.cells (by omega) (by rw[show decide ((1:Int)=3∨(1:Int)=4∨(1:Int)=2∨(1:Int)=3)=false by decide];exact hsg)
  go_wp2_with fail
  refine CLA.mono ?_
  rintro e wB ⟨rfl,bB⟩
  have szB:=bB.size
  have RSb:=RSa.below bB (Nat.le_refl _)
  have Fb:=(bB.block fb hfA).trans Fa
  have Lb:=La.below bB (Nat.le_refl _)
  have rb:=(bB.block nb hnA).trans ra
  have Kb:Keep (Lv w.heap.size g [.slice al lead.length cl,blkV fb]) w wB:=Ka.trans (Keep.of bB (fun k hk=>hk)) (fun k hk=>Nat.lt_of_lt_of_le hk.1 Ka.size)
  have szKa:=Ka.size
  clear RSa Fa La ra Ka qnA CLA
  have CEN:=flEnds_is false g s n r5.at' (r5.fin:Int) (.slice none 0 0) false wB RSb.cells (by omega) hla
  go_wp2_with fail
  refine CEN.mono ?_
  rintro e wB' ⟨rfl,jB,rfl⟩
  obtain ⟨wN,hwN⟩:∃ wN,wN=wB.drewN jB:=⟨_,rfl⟩
  have RSn:=RSb.drewN jB
  have Fn:(wB.drewN jB).heap[fb]?=_:=Fb
  have rn:(wB.drewN jB).heap[nb]?=_:=rb
  have Ln:HasV 2 (wB.drewN jB) lvA X.length (comV X):=Lb.keep (fun _ _ _=>rfl)
  have Kn:=Kb.drewN jB
  have szN:(wB.drewN jB).heap.size=wB.heap.size:=rfl
  rw[←hwN] at RSn Fn rn Ln Kn szN ⊢
  clear hwN CEN RSb Fb rb Lb Kb
  have CNo:=flNode_is w0 hEv g hg0 s hs n col hcol deep r5.at' r5.fin (.ok (xk,rK)) wN (by omega) RSn (hB.next hg0 Kn (fun u hu=>by cases hu)) hoK
  have szKn:=Kn.size
  go_upto_region 11 with (go_at_call 26;refine CNo.mono ?_;rintro e wP ⟨cs1,cP,rfl,x1,r1,v1,Rk,M1⟩;have rP:=(M1.keep.block nb ⟨by omega,by omega,fun u hu=>by cases hu⟩).trans rn;have qP:∀ j,wP.cell? ⟨nb,j,none⟩=(#[.int .i64 1,.int .i64 1,.int .i64 (-1),.int .i64 0,.string ⟨#[]⟩,.string ⟨#[]⟩,.string ⟨#[]⟩,.slice none 0 0,.slice none 0 0,.slice none 0 0,.bool false,.string ⟨#[]⟩]:Array Value)[j]?:=fun j=>cell_of_row wP _ j _ _ _ rP;have fP:∀ j,wP.frozen? ⟨nb,j,none⟩=false:=fun j=>frozen_of_row wP _ j _ _ rP;obtain ⟨kc0,kc1,kc2,kc3,kc4,kc5,kc6,kca,kcb,kcc,kcd,kce,kcf,kcg,kch,kci,kc7,kc8,rfl,hnear,-,-⟩:=M1.node.cellsK;have HM1:=Lib.hid M1;clear M1)
  obtain ⟨wR,hwR⟩:∃ wR,wR=((((((((((((wP.setCell ⟨nb,0,none⟩ (.int .i64 kc0)).setCell ⟨nb,1,none⟩ (.int .i64 kc1)).setCell ⟨nb,2,none⟩ (.int .i64 kc2)).setCell ⟨nb,3,none⟩ (.int .i64 kc3)).setCell ⟨nb,4,none⟩ (.string kc4)).setCell ⟨nb,5,none⟩ (.string kc5)).setCell ⟨nb,6,none⟩ (.string kc6)).setCell ⟨nb,7,none⟩ (.slice kca kcb kcc)).setCell ⟨nb,8,none⟩ (.slice kcd kce kcf)).setCell ⟨nb,9,none⟩ (.slice kcg kch kci)).setCell ⟨nb,10,none⟩ (.bool kc7)).setCell ⟨nb,11,none⟩ (.string kc8)):=⟨_,rfl⟩
  have rR:wR.heap[nb]?=some (.cells #[.int .i64 kc0,.int .i64 kc1,.int .i64 kc2,.int .i64 kc3,.string kc4,.string kc5,.string kc6,.slice kca kcb kcc,.slice kcd kce kcf,.slice kcg kch kci,.bool kc7,.string kc8] 30 (0,0)):=by rw[hwR];exact row12_set wP (hg:=rP) ..
  have zR:wR.heap.size=wP.heap.size:=by rw[hwR,row12_size]
  have sR:∀ k,¬ k=nb→wR.heap[k]?=wP.heap[k]?:=fun k hk=>by rw[hwR];exact row12_other wP _ k hk ..
  have bR:Below 0 wP wR:=by rw[hwR];exact row12_below wP _ _ (Nat.zero_le _) _ _ _ _ _ _ _ _ _ _ _ _
  rw[←hwR]
  clear hwR qP fP rP
  have M1:=HM1.out
  have szP:=M1.keep.size
  have hown1:=M1.st.has.own
  have hnew1:∀ k,v1.ownBlock=some k→wN.heap.size≤k:=fun k hk=>(by rcases M1.new k hk with h|⟨u,hu,_⟩;exact h;cases hu)
  have hR1:∀ k,Rk k→wN.heap.size≤k:=fun k hk=>(by rcases M1.own k hk with h|⟨u,hu,_⟩;exact h;cases hu)
  have hlt1:=M1.lt
  have hne1:=M1.ne
  have RSr:RSb g s n r1 v1 wR:=M1.st.keep (fun k hlt hk=>sR k (by rcases hk with rfl|hk;omega;have:=hnew1 k hk;omega))
  have Fr:=(sR fb (by omega)).trans ((M1.keep.block fb ⟨by omega,hfg,fun u hu=>by cases hu⟩).trans Fn)
  have Lr:HasV 2 wR lvA X.length (comV X):=Ln.keep (fun k hk hlt=>(sR k (fun e=>kA (by rw[hk,e]))).trans (M1.keep.block k ⟨hlt,fun e=>gA (by rw[hk,e]),fun u hu=>by cases hu⟩))
  have Kr:Keep (Lv w.heap.size g [.slice al lead.length cl,blkV fb]) w wR:=(Kn.trans M1.keep (Lv.step Kn.size (fun u hu=>by cases hu))).trans (Q:=fun k=>k<w.heap.size) ⟨bR.os,bR.tape,bR.output,by omega,fun k hk=>sR k (by omega)⟩ (fun k hk=>hk.1)
  have Nr:IsN Rk wR x1 [.int .i64 kc0,.int .i64 kc1,.int .i64 kc2,.int .i64 kc3,.string kc4,.string kc5,.string kc6,.slice kca kcb kcc,.slice kcd kce kcf,.slice kcg kch kci,.bool kc7,.string kc8]:=IsN.frame (fun b hb=>⟨hb,sR b (by have:=hR1 b hb;omega)⟩) x1 _ M1.node
  have N1v:NewV w.heap.size [.slice al lead.length cl,blkV fb] v1:=fun k hk=>.inl (by have:=hnew1 k hk;omega)
  have hxl:x1.h.lead.length≤40000:=M1.few rfl
  have hres1:=M1.res
  have hwf1:=M1.wf
  clear M1 HM1 CNo RSn Fn Ln Kn rn
  obtain ⟨rfl,hee⟩:=hres1
  have ex:xk=x1:=congrArg Prod.fst hee
  have er:rK=r1:=congrArg Prod.snd hee
  clear hee
  subst ex
  subst er
  go_upto_region 14 with (go_at_call 19;refine (flSkip_of g s n rK v1 (.bad q0 c0) _ (RSr.rs (hwf1 _ rfl)) hs hoS).mono ?_;rintro e wC ⟨cS,vC,rS,rfl,RSc,nC,KC,resS⟩;obtain ⟨es,hcs,hqs⟩:=resS;have HES:=Lib.hid es;clear es;have hcb:(cS != 0)=true:=by rw[bne,Bool.not_eq_eq_eq_not,Bool.not_true,beq_eq_false_iff_ne];exact hcs)
  have szC:=KC.size
  have hownC:=RSc.has.own
  have hmC:∀ k,k<wR.heap.size→k≠g→v1.ownBlock≠some k→wC.heap[k]?=wR.heap[k]?:=fun k h1 h2 h3=>KC.block k ⟨h1,h2,fun u hu e=>by rw[List.mem_singleton] at hu;subst hu;exact h3 e⟩
  have hnC:∀ k,vC.ownBlock=some k→wN.heap.size≤k∧(wR.heap.size≤k∨v1.ownBlock=some k):=fun k hk=>(by rcases nC k hk with h|⟨u,hu,h⟩;exact ⟨by omega,.inl h⟩;rw[List.mem_singleton] at hu;subst hu;exact ⟨hnew1 k h,.inr h⟩)
  have Fc:=(hmC fb (by omega) hfg (fun e=>by have:=hnew1 fb e;omega)).trans Fr
  have rc:=(hmC nb (by omega) (by omega) (fun e=>by have:=hnew1 nb e;omega)).trans rR
  have Lc:HasV 2 wC lvA X.length (comV X):=Lr.keep (fun k hk hlt=>hmC k hlt (fun e=>gA (by rw[hk,e])) (fun e=>by have:=hnew1 k e;have:=hownA k hk;omega))
  have Kc:Keep (Lv w.heap.size g [.slice al lead.length cl,blkV fb]) w wC:=Kr.trans KC (Lv.step Kr.size (one_mem N1v))
  have NC:NewV w.heap.size [.slice al lead.length cl,blkV fb] vC:=nC.trans Kr.size (one_mem N1v)
  have szKr:=Kr.size
  have HR:=Lib.hid (And.intro RSc (And.intro NC Kc))
  clear RSc NC Kc KC Kr RSr
  go_wp2
  go_ret
  obtain ⟨RSc,NC,Kc⟩:=HR.out
  refine ⟨cS,rS,vC,rfl,RSc.b,NC,Kc,fun e=>by have:=(hnC fb e).1;omega,?_⟩
  rw[hov]
  exact ⟨HES.out,hcs,hqs⟩
set_option maxRecDepth 100000 in
set_option maxHeartbeats 3200000 in
theorem flField_key_ok (w0:World) (hEv:Env w0) (g:Nat) (hg0:w0.heap.size≤g) (s:ByteArray) (hs:s.size≤10000) (n:Int) (col:Nat→Nat→Rd (NT × Nat)→Prop) (hcol:CollC w0 g s n col) (deep:Nat) (hd:deep≤90) (p fin fb:Nat) (a:Int) (lv:Value) (lead:Coms) (o:Rd (Coms × List NT × Rst)) (w:World) (h:RS g s n ⟨[],false,fin,p⟩ (.slice none 0 0) w) (hF:w.heap[fb]?=some (.cells #[.int .i64 a,lv,.slice none 0 0] 55 (0,0))) (hL:HasV 2 w lv lead.length (comV lead)) (hlg:lv.ownBlock≠some g) (hlf:lv.ownBlock≠some fb) (hfg:fb≠g) (_hll:lead.length≤20000) (hB:Bs w0 w [lv,blkV fb]) (hq:queryB s p=false) (hsg:signB s p false=false) (xk:NT) (rK:Rst) (hoK:nodeP s n col deep p (.ok (xk,rK))) (b1:Rst) (hoS:skipP s n rK (.ok b1)) (oV:Rd (NT × Rst)) (hoV:valueP s n col xk deep b1 oV) (hov:o=fldO (lead) xk oV) :
  Calls Tryz.prog 17 #[.pointer (some ⟨g,0,none⟩),.pointer (some ⟨fb,0,none⟩),.int .i64 (deep:Int)] w fun e w'=>FldPost g s n fb a w [lv,blkV fb] o e w':=by
 have hg:=h.cells.lt
 have hwf:=h.ok
 have hfb:fb<w.heap.size:=(Array.getElem?_eq_some_iff.1 hF).1
 obtain ⟨al,cl,rfl⟩:=hL.form
 have CQ:=flQuery_is false g s n p (fin:Int) (.slice none 0 0) false w h.cells (by omega) hq
 have CE:∀ W,Calls Tryz.prog 30 #[] W fun e w'=>e=.returned (.agg #[.int .i64 1,.int .i64 1,.int .i64 (-1),.int .i64 0,.string ⟨#[]⟩,.string ⟨#[]⟩,.string ⟨#[]⟩,.slice none 0 0,.slice none 0 0,.slice none 0 0,.bool false,.string ⟨#[]⟩])∧Below W.heap.size W w':=fun W=>flEmpty_is W
 go_enter Tryz.func17,Tryz.ntmps17
 go_upto_region 2 with (first
  | (go_at_call 24;refine CQ.mono ?_;rintro e w1 ⟨rfl,j1,rfl⟩)
  | (go_at_call 30;refine (CE _).mono ?_;rintro e w2 ⟨rfl,b2⟩))
 have b02:Below w.heap.size w w2:=(below_drewN (Below.refl _ _) j1:Below w.heap.size w (w.drewN j1)).trans b2
 have sz2:=b02.size
 obtain ⟨wA,hwA⟩:∃ wA,wA=w2.alloc (.cells #[.int .i64 1,.int .i64 1,.int .i64 (-1),.int .i64 0,.string ⟨#[]⟩,.string ⟨#[]⟩,.string ⟨#[]⟩,.slice none 0 0,.slice none 0 0,.slice none 0 0,.bool false,.string ⟨#[]⟩] 30):=⟨_,rfl⟩
 have z3:wA.heap.size=w2.heap.size+1:=by rw[hwA];simp
 have b3:Below w2.heap.size w2 wA:=by rw[hwA];exact (Below.refl _ _).alloc (Nat.le_refl _) _
 have ra:wA.heap[w2.heap.size]?=some (.cells #[.int .i64 1,.int .i64 1,.int .i64 (-1),.int .i64 0,.string ⟨#[]⟩,.string ⟨#[]⟩,.string ⟨#[]⟩,.slice none 0 0,.slice none 0 0,.slice none 0 0,.bool false,.string ⟨#[]⟩] 30 (0,0)):=by rw[hwA];exact heap_alloc_new w2 _
 have b03:Below w.heap.size w wA:=b02.trans (b3.mono sz2)
 rw[←hwA]
 clear hwA
 obtain ⟨nb,hnb⟩:∃ nb,nb=w2.heap.size:=⟨_,rfl⟩
 rw[←hnb] at ra z3 ⊢
 have hnb0:w.heap.size≤nb:=by omega
 have RSa:=h.below b03 (Nat.le_refl _)
 have Fa:=(b03.block fb hfb).trans hF
 have La:=hL.below b03 (Nat.le_refl _)
 have Ka:Keep (Lv w.heap.size g [.slice al lead.length cl,blkV fb]) w wA:=Keep.of b03 (fun k hk=>hk.1)
 have hownL:=hL.own
 have HNB:=Lib.hid hnb
 clear hnb b02 b3 b2 CE CQ b03 hF h hL
 obtain ⟨lvA,hlv⟩:∃ lvA,lvA=Value.slice al lead.length cl:=⟨_,rfl⟩
 have Na:NewV w.heap.size [.slice al lead.length cl,blkV fb] lvA:=fun k hk=>.inr ⟨Value.slice al lead.length cl,by simp,by rw[←hlv];exact hk⟩
 rw[←hlv] at La Fa hownL hlg hlf
 clear hlv
 have hnA:nb<wA.heap.size:=by omega
 have gA:lvA.ownBlock≠some g:=hlg
 have fA:lvA.ownBlock≠some fb:=hlf
 have kA:lvA.ownBlock≠some nb:=(fun e=>by have:=hownL nb e;omega)
 have hownA:=La.own
 have hfA:fb<wA.heap.size:=(Array.getElem?_eq_some_iff.1 Fa).1
 have hgA:=RSa.cells.lt
 have qnA:∀ j,wA.cell? ⟨nb,j,none⟩=(#[.int .i64 1,.int .i64 1,.int .i64 (-1),.int .i64 0,.string ⟨#[]⟩,.string ⟨#[]⟩,.string ⟨#[]⟩,.slice none 0 0,.slice none 0 0,.slice none 0 0,.bool false,.string ⟨#[]⟩]:Array Value)[j]?:=fun j=>cell_of_row wA _ j _ _ _ ra
 have CLA:=flColon_x false g s n p (fin:Int) (.slice none 0 0) false 1 1 (-1) 0 ⟨#[]⟩ ⟨#[]⟩ ⟨#[]⟩ none 0 0 none 0 0 none 0 0 false ⟨#[]⟩ wA RSa.cells (by omega) (by rw[show decide ((1:Int)=3∨(1:Int)=4∨(1:Int)=2∨(1:Int)=3)=false by decide];exact hsg)
 go_wp2_with fail
 refine CLA.mono ?_
 rintro e wB ⟨rfl,bB⟩
 have szB:=bB.size
 have RSb:=RSa.below bB (Nat.le_refl _)
 have Fb:=(bB.block fb hfA).trans Fa
 have Lb:=La.below bB (Nat.le_refl _)
 have rb:=(bB.block nb hnA).trans ra
 have Kb:Keep (Lv w.heap.size g [.slice al lead.length cl,blkV fb]) w wB:=Ka.trans (Keep.of bB (fun k hk=>hk)) (fun k hk=>Nat.lt_of_lt_of_le hk.1 Ka.size)
 have szKa:=Ka.size
 clear RSa Fa La ra Ka qnA CLA
 obtain ⟨wN,hwN⟩:∃ wN,wN=wB:=⟨_,rfl⟩
 have RSn:=RSb
 have Fn:=Fb
 have rn:=rb
 have Ln:=Lb
 have Kn:=Kb
 have szN:wN.heap.size=wB.heap.size:=by rw[hwN]
 rw[←hwN] at RSn Fn rn Ln Kn ⊢
 clear hwN RSb Fb rb Lb Kb
 have CNo:=flNode_is w0 hEv g hg0 s hs n col hcol deep p fin (.ok (xk,rK)) wN (by omega) RSn (hB.next hg0 Kn (fun u hu=>by cases hu)) hoK
 have szKn:=Kn.size
 go_upto_region 11 with (go_at_call 26;refine CNo.mono ?_;rintro e wP ⟨cs1,cP,rfl,x1,r1,v1,Rk,M1⟩;have rP:=(M1.keep.block nb ⟨by omega,by omega,fun u hu=>by cases hu⟩).trans rn;have qP:∀ j,wP.cell? ⟨nb,j,none⟩=(#[.int .i64 1,.int .i64 1,.int .i64 (-1),.int .i64 0,.string ⟨#[]⟩,.string ⟨#[]⟩,.string ⟨#[]⟩,.slice none 0 0,.slice none 0 0,.slice none 0 0,.bool false,.string ⟨#[]⟩]:Array Value)[j]?:=fun j=>cell_of_row wP _ j _ _ _ rP;have fP:∀ j,wP.frozen? ⟨nb,j,none⟩=false:=fun j=>frozen_of_row wP _ j _ _ rP;obtain ⟨kc0,kc1,kc2,kc3,kc4,kc5,kc6,kca,kcb,kcc,kcd,kce,kcf,kcg,kch,kci,kc7,kc8,rfl,hnear,-,-⟩:=M1.node.cellsK;have HM1:=Lib.hid M1;clear M1)
 obtain ⟨wR,hwR⟩:∃ wR,wR=((((((((((((wP.setCell ⟨nb,0,none⟩ (.int .i64 kc0)).setCell ⟨nb,1,none⟩ (.int .i64 kc1)).setCell ⟨nb,2,none⟩ (.int .i64 kc2)).setCell ⟨nb,3,none⟩ (.int .i64 kc3)).setCell ⟨nb,4,none⟩ (.string kc4)).setCell ⟨nb,5,none⟩ (.string kc5)).setCell ⟨nb,6,none⟩ (.string kc6)).setCell ⟨nb,7,none⟩ (.slice kca kcb kcc)).setCell ⟨nb,8,none⟩ (.slice kcd kce kcf)).setCell ⟨nb,9,none⟩ (.slice kcg kch kci)).setCell ⟨nb,10,none⟩ (.bool kc7)).setCell ⟨nb,11,none⟩ (.string kc8)):=⟨_,rfl⟩
 have rR:wR.heap[nb]?=some (.cells #[.int .i64 kc0,.int .i64 kc1,.int .i64 kc2,.int .i64 kc3,.string kc4,.string kc5,.string kc6,.slice kca kcb kcc,.slice kcd kce kcf,.slice kcg kch kci,.bool kc7,.string kc8] 30 (0,0)):=by rw[hwR];exact row12_set wP (hg:=rP) ..
 have zR:wR.heap.size=wP.heap.size:=by rw[hwR,row12_size]
 have sR:∀ k,¬ k=nb→wR.heap[k]?=wP.heap[k]?:=fun k hk=>by rw[hwR];exact row12_other wP _ k hk ..
 have bR:Below 0 wP wR:=by rw[hwR];exact row12_below wP _ _ (Nat.zero_le _) _ _ _ _ _ _ _ _ _ _ _ _
 rw[←hwR]
 clear hwR qP fP rP
 have M1:=HM1.out
 have szP:=M1.keep.size
 have hown1:=M1.st.has.own
 have hnew1:∀ k,v1.ownBlock=some k→wN.heap.size≤k:=fun k hk=>(by rcases M1.new k hk with h|⟨u,hu,_⟩;exact h;cases hu)
 have hR1:∀ k,Rk k→wN.heap.size≤k:=fun k hk=>(by rcases M1.own k hk with h|⟨u,hu,_⟩;exact h;cases hu)
 have hlt1:=M1.lt
 have hne1:=M1.ne
 have RSr:RSb g s n r1 v1 wR:=M1.st.keep (fun k hlt hk=>sR k (by rcases hk with rfl|hk;omega;have:=hnew1 k hk;omega))
 have Fr:=(sR fb (by omega)).trans ((M1.keep.block fb ⟨by omega,hfg,fun u hu=>by cases hu⟩).trans Fn)
 have Lr:HasV 2 wR lvA lead.length (comV lead):=Ln.keep (fun k hk hlt=>(sR k (fun e=>kA (by rw[hk,e]))).trans (M1.keep.block k ⟨hlt,fun e=>gA (by rw[hk,e]),fun u hu=>by cases hu⟩))
 have Kr:Keep (Lv w.heap.size g [.slice al lead.length cl,blkV fb]) w wR:=(Kn.trans M1.keep (Lv.step Kn.size (fun u hu=>by cases hu))).trans (Q:=fun k=>k<w.heap.size) ⟨bR.os,bR.tape,bR.output,by omega,fun k hk=>sR k (by omega)⟩ (fun k hk=>hk.1)
 have Nr:IsN Rk wR x1 [.int .i64 kc0,.int .i64 kc1,.int .i64 kc2,.int .i64 kc3,.string kc4,.string kc5,.string kc6,.slice kca kcb kcc,.slice kcd kce kcf,.slice kcg kch kci,.bool kc7,.string kc8]:=IsN.frame (fun b hb=>⟨hb,sR b (by have:=hR1 b hb;omega)⟩) x1 _ M1.node
 have N1v:NewV w.heap.size [.slice al lead.length cl,blkV fb] v1:=fun k hk=>.inl (by have:=hnew1 k hk;omega)
 have hxl:x1.h.lead.length≤40000:=M1.few rfl
 have hres1:=M1.res
 have hwf1:=M1.wf
 clear M1 HM1 CNo RSn Fn Ln Kn rn
 obtain ⟨rfl,hee⟩:=hres1
 have ex:xk=x1:=congrArg Prod.fst hee
 have er:rK=r1:=congrArg Prod.snd hee
 clear hee
 subst ex
 subst er
 go_upto_region 14 with (go_at_call 19;refine (flSkip_of g s n rK v1 (.ok b1) _ (RSr.rs (hwf1 _ rfl)) hs hoS).mono ?_;rintro e wC ⟨cS,vC,rS,rfl,RSc,nC,KC,resS⟩;obtain ⟨rfl,rfl⟩:=resS)
 have szC:=KC.size
 have hownC:=RSc.has.own
 have hmC:∀ k,k<wR.heap.size→k≠g→v1.ownBlock≠some k→wC.heap[k]?=wR.heap[k]?:=fun k h1 h2 h3=>KC.block k ⟨h1,h2,fun u hu e=>by rw[List.mem_singleton] at hu;subst hu;exact h3 e⟩
 have hnC:∀ k,vC.ownBlock=some k→wN.heap.size≤k∧(wR.heap.size≤k∨v1.ownBlock=some k):=fun k hk=>(by rcases nC k hk with h|⟨u,hu,h⟩;exact ⟨by omega,.inl h⟩;rw[List.mem_singleton] at hu;subst hu;exact ⟨hnew1 k h,.inr h⟩)
 have Fc:=(hmC fb (by omega) hfg (fun e=>by have:=hnew1 fb e;omega)).trans Fr
 have rc:=(hmC nb (by omega) (by omega) (fun e=>by have:=hnew1 nb e;omega)).trans rR
 have Lc:HasV 2 wC lvA lead.length (comV lead):=Lr.keep (fun k hk hlt=>hmC k hlt (fun e=>gA (by rw[hk,e])) (fun e=>by have:=hnew1 k e;have:=hownA k hk;omega))
 have Kc:Keep (Lv w.heap.size g [.slice al lead.length cl,blkV fb]) w wC:=Kr.trans KC (Lv.step Kr.size (one_mem N1v))
 have NC:NewV w.heap.size [.slice al lead.length cl,blkV fb] vC:=nC.trans Kr.size (one_mem N1v)
 have szKr:=Kr.size
 have hwCn:∀ k,vC.ownBlock=some k→k≠nb:=fun k e=>by have:=(hnC k e).1;omega
 have hCf:∀ k,vC.ownBlock=some k→k≠fb:=fun k e=>by have:=(hnC k e).1;omega
 have hCl:∀ k,vC.ownBlock=some k→lvA.ownBlock≠some k:=fun k e e2=>by have:=(hnC k e).1;have:=hownA k e2;omega
 have hCw:∀ k,vC.ownBlock=some k→w.heap.size≤k:=fun k e=>by have:=(hnC k e).1;omega
 have hRk:∀ k,Rk k→k<wC.heap.size∧w.heap.size≤k∧k≠g∧k≠fb∧vC.ownBlock≠some k∧lvA.ownBlock≠some k:=fun k hk=>by
  have h1:=hR1 k hk
  have h2:=hlt1 k hk
  refine ⟨by omega,by omega,(hne1 k hk).1,by omega,fun e=>?_,fun e=>by have:=hownA k e;omega⟩
  rcases (hnC k e).2 with h|h
  ·omega
  ·exact (hne1 k hk).2 h
 have Nk:IsN Rk wC xk [.int .i64 kc0,.int .i64 kc1,.int .i64 kc2,.int .i64 kc3,.string kc4,.string kc5,.string kc6,.slice kca kcb kcc,.slice kcd kce kcf,.slice kcg kch kci,.bool kc7,.string kc8]:=IsN.frame (fun b hb=>⟨hb,hmC b (by have:=hlt1 b hb;omega) (hne1 b hb).1 (hne1 b hb).2⟩) xk _ Nr
 have hlk:xk.h.lead.length≤40000:=hxl
 have hov2:o=fldO lead xk oV:=by
  skip
  exact hov
 have hkey:=hnear
 clear hov hnear Nr KC Kr RSr Fr Lr rR
 have qnC:∀ j,wC.cell? ⟨nb,j,none⟩=(#[.int .i64 kc0,.int .i64 kc1,.int .i64 kc2,.int .i64 kc3,.string kc4,.string kc5,.string kc6,.slice kca kcb kcc,.slice kcd kce kcf,.slice kcg kch kci,.bool kc7,.string kc8]:Array Value)[j]?:=fun j=>cell_of_row wC _ j _ _ _ rc
 have CV:=flValue_is w0 hEv g hg0 s hs n col hcol deep (by omega) rS vC kc0 kc1 kc2 kc3 kc4 kc5 kc6 kca kcb kcc kcd kce kcf kcg kch kci kc7 kc8 oV wC RSc (hB.next hg0 Kc (one_mem NC)) xk hkey hoV
 have hownC:=RSc.has.own
 have hC5:=hwCn
 have szKc:=Kc.size
 go_upto_region 17 with (go_at_call 29;refine CV.mono ?_;rintro e wD ⟨cs2,c2,rfl,x2,r2,v2,R2,M2⟩;have rD:=(M2.keep.block nb ⟨by omega,by omega,fun u hu e=>by rw[List.mem_singleton] at hu;subst hu;exact hC5 nb e rfl⟩).trans rc;have FD:=(M2.keep.block fb ⟨by omega,hfg,fun u hu e=>by rw[List.mem_singleton] at hu;subst hu;exact hCf fb e rfl⟩).trans Fc;obtain ⟨y0,y1,y2,y3,y4,y5,y6,ya,yb,yc,yd,ye,yf,yg,yh,yi,y7,y8,rfl⟩:=M2.node.cells12;have HM2:=Lib.hid M2;clear M2)
 obtain ⟨wE,hwE⟩:∃ wE,wE=wD.alloc (.cells #[.int .i64 y0,.int .i64 y1,.int .i64 y2,.int .i64 y3,.string y4,.string y5,.string y6,.slice ya yb yc,.slice yd ye yf,.slice yg yh yi,.bool y7,.string y8] 30):=⟨_,rfl⟩
 have szD:=HM2.out.keep.size
 have zE:wE.heap.size=wD.heap.size+1:=by rw[hwE];simp
 have bE:Below wD.heap.size wD wE:=by rw[hwE];exact (Below.refl _ _).alloc (Nat.le_refl _) _
 have rvE:wE.heap[wD.heap.size]?=some (.cells #[.int .i64 y0,.int .i64 y1,.int .i64 y2,.int .i64 y3,.string y4,.string y5,.string y6,.slice ya yb yc,.slice yd ye yf,.slice yg yh yi,.bool y7,.string y8] 30 (0,0)):=by rw[hwE];exact heap_alloc_new wD _
 have rE:=(bE.block nb (by omega)).trans rD
 have FE:=(bE.block fb (by omega)).trans FD
 rw[←hwE]
 clear hwE rD FD qnC
 have qnE:∀ j,wE.cell? ⟨nb,j,none⟩=(#[.int .i64 kc0,.int .i64 kc1,.int .i64 kc2,.int .i64 kc3,.string kc4,.string kc5,.string kc6,.slice kca kcb kcc,.slice kcd kce kcf,.slice kcg kch kci,.bool kc7,.string kc8]:Array Value)[j]?:=fun j=>cell_of_row wE _ j _ _ _ rE
 have qvE:∀ j,wE.cell? ⟨wD.heap.size,j,none⟩=(#[.int .i64 y0,.int .i64 y1,.int .i64 y2,.int .i64 y3,.string y4,.string y5,.string y6,.slice ya yb yc,.slice yd ye yf,.slice yg yh yi,.bool y7,.string y8]:Array Value)[j]?:=fun j=>cell_of_row wE _ j _ _ _ rvE
 have qfF:∀ ob j,(wE.alloc ob).cell? ⟨fb,j,none⟩=(#[.int .i64 a,lvA,.slice none 0 0]:Array Value)[j]?:=fun ob j=>cell_of_row _ _ j _ _ _ ((heap_alloc_old wE ob (show fb<wE.heap.size by omega)).trans FE)
 have ffF:∀ ob j,(wE.alloc ob).frozen? ⟨fb,j,none⟩=false:=fun ob j=>frozen_of_row _ _ j _ _ ((heap_alloc_old wE ob (show fb<wE.heap.size by omega)).trans FE)
 have HC:=Lib.hid (And.intro Lc (And.intro Kc RSc))
 clear CV Lc Kc RSc rc Fc
 go_wp2
 go_ret
 obtain ⟨Lc,Kc,RSc⟩:=HC.out
 have M2:=HM2.out
 obtain ⟨wF,hwF⟩:∃ wF,wF=(wE.alloc (.cells #[.int .i64 kc0,.int .i64 kc1,.int .i64 kc2,.int .i64 kc3,.string kc4,.string kc5,.string kc6,.slice kca kcb kcc,.slice kcd kce kcf,.slice kcg kch kci,.bool kc7,.string kc8,.int .i64 y0,.int .i64 y1,.int .i64 y2,.int .i64 y3,.string y4,.string y5,.string y6,.slice ya yb yc,.slice yd ye yf,.slice yg yh yi,.bool y7,.string y8] 30)).setCell ⟨fb,2,none⟩ (.slice (some ⟨wE.heap.size,0,none⟩) 2 2):=⟨_,rfl⟩
 have zF:wF.heap.size=wE.heap.size+1:=by rw[hwF];simp[World.setCell]
 have sF:∀ k,k<wE.heap.size→k≠fb→wF.heap[k]?=wE.heap[k]?:=fun k h1 h2=>by rw[hwF,heap_setCell_other _ _ _ _ h2];exact heap_alloc_old _ _ h1
 have oF:wF.os=wE.os∧wF.tape=wE.tape∧wF.output=wE.output:=by rw[hwF];exact ⟨rfl,rfl,rfl⟩
 have rF:wF.heap[wE.heap.size]?=some (.cells #[.int .i64 kc0,.int .i64 kc1,.int .i64 kc2,.int .i64 kc3,.string kc4,.string kc5,.string kc6,.slice kca kcb kcc,.slice kcd kce kcf,.slice kcg kch kci,.bool kc7,.string kc8,.int .i64 y0,.int .i64 y1,.int .i64 y2,.int .i64 y3,.string y4,.string y5,.string y6,.slice ya yb yc,.slice yd ye yf,.slice yg yh yi,.bool y7,.string y8] 30 (0,0)):=by rw[hwF,heap_setCell_other _ _ _ _ (show wE.heap.size≠fb by omega)];exact heap_alloc_new wE _
 have FF:wF.heap[fb]?=some (.cells #[.int .i64 a,lvA,.slice (some ⟨wE.heap.size,0,none⟩) 2 2] 55 (0,0)):=by rw[hwF];exact heap_setCell_same _ _ 2 _ _ _ ((heap_alloc_old _ _ (show fb<wE.heap.size by omega)).trans FE)
 first|rw[←hwF] | rw[show wD.heap.size+1=wE.heap.size from zE.symm,←hwF] | (rw[zE] at hwF;rw[←hwF])
 have far:∀ k,k<wD.heap.size→k≠fb→wF.heap[k]?=wD.heap[k]?:=fun k h1 h2=>(sF k (by omega) h2).trans (bE.block k h1)
 have hnew2:∀ k,v2.ownBlock=some k→wC.heap.size≤k∨vC.ownBlock=some k:=fun k hk=>(by rcases M2.new k hk with h|⟨u,hu,h⟩;exact .inl h;rw[List.mem_singleton] at hu;subst hu;exact .inr h)
 have hR2:∀ k,R2 k→wC.heap.size≤k∨vC.ownBlock=some k:=fun k hk=>(by rcases M2.own k hk with h|⟨u,hu,h⟩;exact .inl h;rw[List.mem_singleton] at hu;subst hu;exact .inr h)
 have hv2o:=M2.st.has.own
 have v2f:∀ k,v2.ownBlock=some k→k≠fb:=fun k hk=>(by rcases hnew2 k hk with h|h;omega;exact hCf k h)
 have RF:RSb g s n r2 v2 wF:=M2.st.keep (fun k hlt hk=>far k hlt (by rcases hk with rfl|hk;exact fun e=>hfg e.symm;exact v2f k hk))
 have LF:HasV 2 wF lvA lead.length (comV lead):=Lc.keep (fun k hk hlt=>(far k (by omega) (fun e=>fA (by rw[hk,e]))).trans (M2.keep.block k ⟨hlt,fun e=>gA (by rw[hk,e]),fun u hu e=>by rw[List.mem_singleton] at hu;subst hu;exact hCl k e hk⟩))
 have KF:Keep (Lv w.heap.size g [.slice al lead.length cl,blkV fb]) w wF:=(Kc.trans M2.keep (Lv.step Kc.size (one_mem NC))).trans (Q:=fun k=>k<w.heap.size∧k≠fb) ⟨oF.1.trans bE.os,oF.2.1.trans bE.tape,oF.2.2.trans bE.output,by omega,fun k hk=>far k (by have:=hk.1;omega) hk.2⟩ (fun k hk=>⟨hk.1,fun e=>hk.2.2 (blkV fb) (by simp) (by rw[e];rfl)⟩)
 have NF:NewV w.heap.size [.slice al lead.length cl,blkV fb] v2:=M2.new.trans Kc.size (one_mem NC)
 have N2:IsN R2 wF x2 [.int .i64 y0,.int .i64 y1,.int .i64 y2,.int .i64 y3,.string y4,.string y5,.string y6,.slice ya yb yc,.slice yd ye yf,.slice yg yh yi,.bool y7,.string y8]:=IsN.frame (fun b hb=>⟨hb,far b (M2.lt b hb) (by rcases hR2 b hb with h|h;omega;exact hCf b h)⟩) x2 _ M2.node
 have N1:IsN Rk wF xk [.int .i64 kc0,.int .i64 kc1,.int .i64 kc2,.int .i64 kc3,.string kc4,.string kc5,.string kc6,.slice kca kcb kcc,.slice kcd kce kcf,.slice kcg kch kci,.bool kc7,.string kc8]:=IsN.frame (fun b hb=>⟨hb,(far b (by have:=(hRk b hb).1;omega) (hRk b hb).2.2.2.1).trans (M2.keep.block b ⟨(hRk b hb).1,(hRk b hb).2.2.1,fun u hu e=>by rw[List.mem_singleton] at hu;subst hu;exact (hRk b hb).2.2.2.2.1 e⟩)⟩) xk _ Nk
 refine ⟨c2,r2,v2,rfl,RF,NF,KF,fun e=>v2f fb e rfl,?_⟩
 have hres:=M2.res
 rw[hov2]
 cases oV with
 | bad q k=>exact hres
 | ok y=>exact ⟨hres.1,(congrArg Prod.snd hres.2).symm,M2.wf _ rfl,(fun z hz=>by simp at hz;subst hz;exact hlk),by
  have hy:y.1=x2:=congrArg Prod.fst hres.2
  show ∃ lv kb m cap arr R,FndM g fb a w wF [.slice al lead.length cl,blkV fb] v2 lead [xk,y.1] lv kb m cap arr R
  rw[hy]
  exact ⟨lvA,wE.heap.size,2,2,#[.int .i64 kc0,.int .i64 kc1,.int .i64 kc2,.int .i64 kc3,.string kc4,.string kc5,.string kc6,.slice kca kcb kcc,.slice kcd kce kcf,.slice kcg kch kci,.bool kc7,.string kc8,.int .i64 y0,.int .i64 y1,.int .i64 y2,.int .i64 y3,.string y4,.string y5,.string y6,.slice ya yb yc,.slice yd ye yf,.slice yg yh yi,.bool y7,.string y8],fun k=>Rk k∨R2 k,⟨FF,LF,rF,⟨rfl,Nat.le_refl _,by decide,Nat.le_refl _⟩,IsKL.two (N1.frame' (fun b hb=>.inl hb)) (N2.frame' (fun b hb=>.inr hb)),⟨by omega,fun e=>by have:=hv2o _ e;omega,fun e=>by have:=LF.own _ e;have:=hownA _ e;omega⟩,⟨Na,gA,fA,fun k hk e=>by rcases hnew2 k e with h|h;have:=hownA k hk;omega;exact hCl k h hk⟩,fun k hk=>by
   rcases hk with hk|hk
   ·obtain ⟨q1,q2,q3,q4,q5,q6⟩:=hRk k hk
    exact ⟨by omega,q2,by omega,fun e=>by rcases hnew2 k e with h|h;omega;exact q5 h,q6⟩
   ·have q1:=M2.lt k hk
    refine ⟨by omega,?_,by omega,(M2.ne k hk).2,fun e=>?_⟩
    ·rcases hR2 k hk with h|h
     ·omega
     ·exact hCw k h
    ·rcases hR2 k hk with h|h
     ·have:=hownA k e;omega
     ·exact hCl k h e⟩⟩⟩
set_option maxRecDepth 100000 in
set_option maxHeartbeats 3200000 in
theorem flField_qkey_ok (w0:World) (hEv:Env w0) (g:Nat) (hg0:w0.heap.size≤g) (s:ByteArray) (hs:s.size≤10000) (n:Int) (col:Nat→Nat→Rd (NT × Nat)→Prop) (hcol:CollC w0 g s n col) (deep:Nat) (hd:deep≤90) (p fin fb:Nat) (a:Int) (lv:Value) (lead:Coms) (o:Rd (Coms × List NT × Rst)) (w:World) (h:RS g s n ⟨[],false,fin,p⟩ (.slice none 0 0) w) (hF:w.heap[fb]?=some (.cells #[.int .i64 a,lv,.slice none 0 0] 55 (0,0))) (hL:HasV 2 w lv lead.length (comV lead)) (hlg:lv.ownBlock≠some g) (hlf:lv.ownBlock≠some fb) (hfg:fb≠g) (hll:lead.length≤20000) (hB:Bs w0 w [lv,blkV fb]) (hq:queryB s p=true) (b:Rst) (ho1:skipP s n (fresh (p+1)) (.ok b)) (hsg:signB s b.at' false=false) (hla:lacksB s b.at'=false) (xk:NT) (rK:Rst) (hoK:nodeP s n col deep b.at' (.ok (xk,rK))) (b1:Rst) (hoS:skipP s n rK (.ok b1)) (oV:Rd (NT × Rst)) (hoV:valueP s n col xk deep b1 oV) (hov:o=fldO (lead++b.l) xk oV) :
  Calls Tryz.prog 17 #[.pointer (some ⟨g,0,none⟩),.pointer (some ⟨fb,0,none⟩),.int .i64 (deep:Int)] w fun e w'=>FldPost g s n fb a w [lv,blkV fb] o e w':=by
 have hg:=h.cells.lt
 have hwf:=h.ok
 have hfb:fb<w.heap.size:=(Array.getElem?_eq_some_iff.1 hF).1
 obtain ⟨al,cl,rfl⟩:=hL.form
 have CQ:=flQuery_is true g s n p (fin:Int) (.slice none 0 0) false w h.cells (by omega) hq
 have CE:∀ W,Calls Tryz.prog 30 #[] W fun e w'=>e=.returned (.agg #[.int .i64 1,.int .i64 1,.int .i64 (-1),.int .i64 0,.string ⟨#[]⟩,.string ⟨#[]⟩,.string ⟨#[]⟩,.slice none 0 0,.slice none 0 0,.slice none 0 0,.bool false,.string ⟨#[]⟩])∧Below W.heap.size W w':=fun W=>flEmpty_is W
 go_enter Tryz.func17,Tryz.ntmps17
 go_upto_region 2 with (first
  | (go_at_call 24;refine CQ.mono ?_;rintro e w1 ⟨rfl,j1,rfl⟩)
  | (go_at_call 30;refine (CE _).mono ?_;rintro e w2 ⟨rfl,b2⟩))
 have b02:Below w.heap.size w w2:=(below_drewN (Below.refl _ _) j1:Below w.heap.size w (w.drewN j1)).trans b2
 have sz2:=b02.size
 obtain ⟨w3,hw3⟩:∃ w3,w3=w2.alloc (.cells #[.int .i64 1,.int .i64 1,.int .i64 (-1),.int .i64 0,.string ⟨#[]⟩,.string ⟨#[]⟩,.string ⟨#[]⟩,.slice none 0 0,.slice none 0 0,.slice none 0 0,.bool false,.string ⟨#[]⟩] 30):=⟨_,rfl⟩
 have z3:w3.heap.size=w2.heap.size+1:=by rw[hw3];simp
 have b3:Below w2.heap.size w2 w3:=by rw[hw3];exact (Below.refl _ _).alloc (Nat.le_refl _) _
 have r3:w3.heap[w2.heap.size]?=some (.cells #[.int .i64 1,.int .i64 1,.int .i64 (-1),.int .i64 0,.string ⟨#[]⟩,.string ⟨#[]⟩,.string ⟨#[]⟩,.slice none 0 0,.slice none 0 0,.slice none 0 0,.bool false,.string ⟨#[]⟩] 30 (0,0)):=by rw[hw3];exact heap_alloc_new w2 _
 have b03:Below w.heap.size w w3:=b02.trans (b3.mono sz2)
 rw[←hw3]
 clear hw3
 obtain ⟨nb,hnb⟩:∃ nb,nb=w2.heap.size:=⟨_,rfl⟩
 rw[←hnb] at r3 z3 ⊢
 have hnb0:w.heap.size≤nb:=by omega
 have R3:=h.below b03 (Nat.le_refl _)
 have F3:=(b03.block fb hfb).trans hF
 have L3:=hL.below b03 (Nat.le_refl _)
 have K3:Keep (Lv w.heap.size g [.slice al lead.length cl,blkV fb]) w w3:=Keep.of b03 (fun k hk=>hk.1)
 have hownL:=hL.own
 have HNB:=Lib.hid hnb
 clear hnb b02 b3 b2 CE CQ b03 hF h hL
 have hlt:=query_lt hq
 have c3:=R3.cells.cell
 go_upto_region 5 with (first
  | (go_at_call 18;refine (flPass_is g s n _ _ ((p:Int)+1) (.slice none 0 0) false _ R3.cells).mono ?_;rintro e w4 ⟨rfl,h4,g4,z4⟩;have R4:RS g s n (fresh (p+1)) (.slice none 0 0) w4:=RS.bare (by rw[show ((p+1:Nat):Int)=(p:Int)+1 by omega];exact h4) (Nat.le_refl _) hlt;have K4:Keep (Lv w.heap.size g [.slice al lead.length cl,blkV fb]) w w4:=K3.trans (Q:=fun k=>k<w3.heap.size∧k≠g) ⟨g4.os,g4.tape,g4.output,by omega,fun k hk=>g4.block k hk.1 (fun e=>hk.2 (by injection e))⟩ (fun k hk=>⟨by have:=hk.1;omega,hk.2.1⟩);have F4:=(g4.block fb (by omega) (fun e=>hfg (by injection e))).trans F3;have L4:=L3.grown g4 (.inr hlg);have r4:=(g4.block nb (by omega) (fun e=>by injection e with e;omega)).trans r3)
  | (go_at_call 19;refine (flSkip_of g s n (fresh (p+1)) (.slice none 0 0) (.ok b) _ R4 hs ho1).mono ?_;rintro e w5 ⟨c5,v5,r5,rfl,R5,n5,K45,res5⟩;obtain ⟨rfl,rfl⟩:=res5))
 have hm45:∀ k,k<w4.heap.size→k≠g→w5.heap[k]?=w4.heap[k]?:=fun k hk hne=>K45.block k ⟨hk,hne,fun u hu e=>by rw[List.mem_singleton] at hu;subst hu;cases e⟩
 have sz45:=K45.size
 have V5:∀ k,v5.ownBlock=some k→w4.heap.size≤k∧k<w5.heap.size:=fun k hk=>⟨(by rcases n5 k hk with h|⟨u,hu,h⟩;exact h;rw[List.mem_singleton] at hu;subst hu;cases h),R5.has.own k hk⟩
 have K5:Keep (Lv w.heap.size g [.slice al lead.length cl,blkV fb]) w w5:=K4.trans (Q:=fun k=>k<w4.heap.size∧k≠g) ⟨K45.os,K45.tape,K45.output,sz45,fun k hk=>hm45 k hk.1 hk.2⟩ (fun k hk=>⟨by have:=hk.1;omega,hk.2.1⟩)
 have N5:NewV w.heap.size [.slice al lead.length cl,blkV fb] v5:=fun k hk=>.inl (by have:=V5 k hk;omega)
 obtain ⟨a5,c5',rfl⟩:=R5.has.form
 have A5:=R5.cells
 have wf5:=R5.ok
 have H5:=R5.has
 have ap5:=R5.apart
 have L5:HasV 2 w5 (.slice al lead.length cl) lead.length (comV lead):=L4.keep fun k hk hlt=>hm45 k hlt (fun e=>hlg (by rw[hk,e]))
 have F5:=(hm45 fb (by omega) hfg).trans F4
 have r5':=(hm45 nb (by omega) (by omega)).trans r4
 have hbl:r5.l.length≤10000:=by have:=wf5.few;have:=wf5.top;omega
 have HL5:=Lib.hid L5
 have HH5:=Lib.hid H5
 have HK5:=Lib.hid (And.intro K5 hm45)
 have hown5:=H5.own
 have K5sz:=K5.size
 obtain ⟨X,hX⟩:∃ X,lead++r5.l=X:=⟨_,rfl⟩
 have HX:=Lib.hid hX
 have cf5:∀ j,w5.cell? ⟨fb,j,none⟩=(#[.int .i64 a,.slice al lead.length cl,.slice none 0 0]:Array Value)[j]?:=fun j=>cell_of_row w5 _ j _ _ _ F5
 have ff5:∀ j,w5.frozen? ⟨fb,j,none⟩=false:=fun j=>frozen_of_row w5 _ j _ _ F5
 clear hX R5 K5 K45 K4 K3 R4 R3 n5 L5 L4 L3 H5 F3 F4 r3 r4 hm45 N5
 go_upto_region 7 with fail
 go_cut [36] (fun v36 wA=>∃ lv2,RS g s n ⟨[],false,r5.fin,r5.at'⟩ (.slice none 0 0) wA∧wA.heap[fb]?=some (.cells #[.int .i64 a,lv2,.slice none 0 0] 55 (0,0))∧HasV 2 wA lv2 X.length (comV X)∧(lv2.ownBlock=(Value.slice al lead.length cl).ownBlock∨∃ k,lv2.ownBlock=some k∧w5.heap.size≤k)∧Keep (Lv w.heap.size g [.slice al lead.length cl,blkV fb]) w wA∧wA.heap[nb]?=some (.cells #[.int .i64 1,.int .i64 1,.int .i64 (-1),.int .i64 0,.string ⟨#[]⟩,.string ⟨#[]⟩,.string ⟨#[]⟩,.slice none 0 0,.slice none 0 0,.slice none 0 0,.bool false,.string ⟨#[]⟩] 30 (0,0))∧w5.heap.size≤wA.heap.size)
 case first=>
  go_region_law (first
   | (go_simp;go_at_call 20;refine (flTake_is g s n _ _ a5 r5.l.length c5' r5.same w5.drew A5).mono ?_;rintro e w6 ⟨rfl,h6,g6,z6⟩;have cf6:w6.cell? ⟨fb,1,none⟩=some (.slice al lead.length cl):=(World.cell?_of_block (a:=⟨fb,1,none⟩) (g6.block fb (by show fb<w5.heap.size;omega) (fun e=>hfg (by injection e)))).trans (cf5 1))
   | (refine step_appendH rfl _ _ rfl _ (.slice al lead.length cl) (.slice a5 r5.l.length c5') lead r5.l rfl rfl ((HL5.out.keep (w':=w5.drew) (fun _ _ _=>rfl)).grown g6 (.inr hlg)) ((HH5.out.keep (w':=w5.drew) (fun _ _ _=>rfl)).grown g6 (.inr ap5)).toComs (by omega) ?_;intro v7 w7 o7 g7 n7;rw[HX.out] at o7;obtain ⟨a7,c7,rfl⟩:=o7.form;have F7:=(g7.block fb (by rw[z6];show fb<w5.heap.size;omega) (fun e=>hlf e.symm)).trans ((g6.block fb (by show fb<w5.heap.size;omega) (fun e=>hfg (by injection e))).trans F5);have cf7:∀ j,w7.cell? ⟨fb,j,none⟩=(#[.int .i64 a,.slice al lead.length cl,.slice none 0 0]:Array Value)[j]?:=fun j=>cell_of_row w7 _ j _ _ _ F7;have ff7:∀ j,w7.frozen? ⟨fb,j,none⟩=false:=fun j=>frozen_of_row w7 _ j _ _ F7))
  all_goals
   have G6:w5.grownBy w6 (some g):=⟨g6.os,g6.tape,g6.output,g6.size,g6.block⟩
   have Z6:w6.heap.size=w5.heap.size:=z6
   have HH:=Lib.hid (And.intro G6 (And.intro g7 (And.intro n7 (And.intro o7 (And.intro F7 h6)))))
   clear g6 z6 G6 g7 n7 o7 h6 F7 cf6 cf7 ff7
   go_wp2
   go_meet
   case rel=>
    obtain ⟨G6,g7,n7,o7,F7,h6⟩:=HH.out
    obtain ⟨K5,hm45⟩:=HK5.out
    have sz7:=g7.size
    have hs:∀ k,k≠fb→(w7.setCell ⟨fb,1,none⟩ (.slice a7 X.length c7)).heap[k]?=w7.heap[k]?:=fun k hk=>heap_setCell_other _ _ _ _ hk
    have n7':∀ k,(Value.slice a7 X.length c7).ownBlock=some k→(Value.slice al lead.length cl).ownBlock=some k∨k=w6.heap.size:=fun k hk=>(by rcases n7 with e|e;exact .inl (e.symm.trans hk);rw[e] at hk;injection hk with hk;exact .inr hk.symm)
    refine ⟨.slice a7 X.length c7,RS.bare ((hs g (fun e=>hfg e.symm)).trans (h6.grown g7 hlg)) wf5.le wf5.top,heap_setCell_same _ _ 1 _ _ _ F7,o7.keep (fun k hk _=>hs k (by rcases n7' k hk with e|e;exact fun e2=>hlf (by rw[e,e2]);omega)),?_,?_,?_,by simp[World.setCell];omega⟩
    ·rcases n7 with e|e
     ·exact .inl e
     ·exact .inr ⟨_,e,by omega⟩
    ·exact K5.trans (Q:=fun k=>k<w.heap.size∧k≠g∧k≠fb∧(Value.slice al lead.length cl).ownBlock≠some k) ⟨g7.os.trans G6.os,g7.tape.trans G6.tape,g7.output.trans G6.output,by simp[World.setCell];omega,fun k hk=>(hs k hk.2.2.1).trans ((g7.block k (by have:=hk.1;omega) (fun e=>hk.2.2.2 e.symm)).trans (G6.block k (by have:=hk.1;omega) (fun e=>hk.2.1 (by injection e))))⟩ (fun k hk=>⟨hk.1,hk.2.1,fun e=>hk.2.2 (blkV fb) (by simp) (by rw[e];rfl),hk.2.2 _ (by simp)⟩)
    ·rw[hs nb (by omega),g7.block nb (by omega) (fun e=>by have:=hownL nb e.symm;omega),G6.block nb (by omega) (fun e=>by injection e with e;omega)]
     exact r5'
 case rest=>
  rename World=>wA
  obtain ⟨lvA,RSa,Fa,La,Oa,Ka,ra,szA⟩:=hcut
  have Na:NewV w.heap.size [.slice al lead.length cl,blkV fb] lvA:=fun k hk=>(by rcases Oa with e|⟨k2,e,h2⟩;exact .inr ⟨_,by simp,e.symm.trans hk⟩;rw[e] at hk;injection hk with hk;exact .inl (by have:=K5sz;omega))
  have hnA:nb<wA.heap.size:=by omega
  have gA:lvA.ownBlock≠some g:=(by rcases Oa with e|⟨k,e,h⟩;rw[e];exact hlg;rw[e];intro e2;injection e2 with e2;omega)
  have fA:lvA.ownBlock≠some fb:=(by rcases Oa with e|⟨k,e,h⟩;rw[e];exact hlf;rw[e];intro e2;injection e2 with e2;omega)
  have kA:lvA.ownBlock≠some nb:=(by rcases Oa with e|⟨k,e,h⟩;rw[e];intro e2;have:=hownL nb e2;omega;rw[e];intro e2;injection e2 with e2;omega)
  have hownA:=La.own
  have hfA:fb<wA.heap.size:=(Array.getElem?_eq_some_iff.1 Fa).1
  have hgA:=RSa.cells.lt
  have qnA:∀ j,wA.cell? ⟨nb,j,none⟩=(#[.int .i64 1,.int .i64 1,.int .i64 (-1),.int .i64 0,.string ⟨#[]⟩,.string ⟨#[]⟩,.string ⟨#[]⟩,.slice none 0 0,.slice none 0 0,.slice none 0 0,.bool false,.string ⟨#[]⟩]:Array Value)[j]?:=fun j=>cell_of_row wA _ j _ _ _ ra
  have CLA:=flColon_x false g s n r5.at' (r5.fin:Int) (.slice none 0 0) false 1 1 (-1) 0 ⟨#[]⟩ ⟨#[]⟩ ⟨#[]⟩ none 0 0 none 0 0 none 0 0 false ⟨#[]⟩ wA RSa.cells (by omega) (by rw[show decide ((1:Int)=3∨(1:Int)=4∨(1:Int)=2∨(1:Int)=3)=false by decide];exact hsg)
  go_wp2_with fail
  refine CLA.mono ?_
  rintro e wB ⟨rfl,bB⟩
  have szB:=bB.size
  have RSb:=RSa.below bB (Nat.le_refl _)
  have Fb:=(bB.block fb hfA).trans Fa
  have Lb:=La.below bB (Nat.le_refl _)
  have rb:=(bB.block nb hnA).trans ra
  have Kb:Keep (Lv w.heap.size g [.slice al lead.length cl,blkV fb]) w wB:=Ka.trans (Keep.of bB (fun k hk=>hk)) (fun k hk=>Nat.lt_of_lt_of_le hk.1 Ka.size)
  have szKa:=Ka.size
  clear RSa Fa La ra Ka qnA CLA
  have CEN:=flEnds_is false g s n r5.at' (r5.fin:Int) (.slice none 0 0) false wB RSb.cells (by omega) hla
  go_wp2_with fail
  refine CEN.mono ?_
  rintro e wB' ⟨rfl,jB,rfl⟩
  obtain ⟨wN,hwN⟩:∃ wN,wN=wB.drewN jB:=⟨_,rfl⟩
  have RSn:=RSb.drewN jB
  have Fn:(wB.drewN jB).heap[fb]?=_:=Fb
  have rn:(wB.drewN jB).heap[nb]?=_:=rb
  have Ln:HasV 2 (wB.drewN jB) lvA X.length (comV X):=Lb.keep (fun _ _ _=>rfl)
  have Kn:=Kb.drewN jB
  have szN:(wB.drewN jB).heap.size=wB.heap.size:=rfl
  rw[←hwN] at RSn Fn rn Ln Kn szN ⊢
  clear hwN CEN RSb Fb rb Lb Kb
  have CNo:=flNode_is w0 hEv g hg0 s hs n col hcol deep r5.at' r5.fin (.ok (xk,rK)) wN (by omega) RSn (hB.next hg0 Kn (fun u hu=>by cases hu)) hoK
  have szKn:=Kn.size
  go_upto_region 11 with (go_at_call 26;refine CNo.mono ?_;rintro e wP ⟨cs1,cP,rfl,x1,r1,v1,Rk,M1⟩;have rP:=(M1.keep.block nb ⟨by omega,by omega,fun u hu=>by cases hu⟩).trans rn;have qP:∀ j,wP.cell? ⟨nb,j,none⟩=(#[.int .i64 1,.int .i64 1,.int .i64 (-1),.int .i64 0,.string ⟨#[]⟩,.string ⟨#[]⟩,.string ⟨#[]⟩,.slice none 0 0,.slice none 0 0,.slice none 0 0,.bool false,.string ⟨#[]⟩]:Array Value)[j]?:=fun j=>cell_of_row wP _ j _ _ _ rP;have fP:∀ j,wP.frozen? ⟨nb,j,none⟩=false:=fun j=>frozen_of_row wP _ j _ _ rP;obtain ⟨kc0,kc1,kc2,kc3,kc4,kc5,kc6,kca,kcb,kcc,kcd,kce,kcf,kcg,kch,kci,kc7,kc8,rfl,hnear,-,-⟩:=M1.node.cellsK;have HM1:=Lib.hid M1;clear M1)
  obtain ⟨wR,hwR⟩:∃ wR,wR=((((((((((((wP.setCell ⟨nb,0,none⟩ (.int .i64 kc0)).setCell ⟨nb,1,none⟩ (.int .i64 kc1)).setCell ⟨nb,2,none⟩ (.int .i64 kc2)).setCell ⟨nb,3,none⟩ (.int .i64 kc3)).setCell ⟨nb,4,none⟩ (.string kc4)).setCell ⟨nb,5,none⟩ (.string kc5)).setCell ⟨nb,6,none⟩ (.string kc6)).setCell ⟨nb,7,none⟩ (.slice kca kcb kcc)).setCell ⟨nb,8,none⟩ (.slice kcd kce kcf)).setCell ⟨nb,9,none⟩ (.slice kcg kch kci)).setCell ⟨nb,10,none⟩ (.bool kc7)).setCell ⟨nb,11,none⟩ (.string kc8)):=⟨_,rfl⟩
  have rR:wR.heap[nb]?=some (.cells #[.int .i64 kc0,.int .i64 kc1,.int .i64 kc2,.int .i64 kc3,.string kc4,.string kc5,.string kc6,.slice kca kcb kcc,.slice kcd kce kcf,.slice kcg kch kci,.bool kc7,.string kc8] 30 (0,0)):=by rw[hwR];exact row12_set wP (hg:=rP) ..
  have zR:wR.heap.size=wP.heap.size:=by rw[hwR,row12_size]
  have sR:∀ k,¬ k=nb→wR.heap[k]?=wP.heap[k]?:=fun k hk=>by rw[hwR];exact row12_other wP _ k hk ..
  have bR:Below 0 wP wR:=by rw[hwR];exact row12_below wP _ _ (Nat.zero_le _) _ _ _ _ _ _ _ _ _ _ _ _
  rw[←hwR]
  clear hwR qP fP rP
  have M1:=HM1.out
  have szP:=M1.keep.size
  have hown1:=M1.st.has.own
  have hnew1:∀ k,v1.ownBlock=some k→wN.heap.size≤k:=fun k hk=>(by rcases M1.new k hk with h|⟨u,hu,_⟩;exact h;cases hu)
  have hR1:∀ k,Rk k→wN.heap.size≤k:=fun k hk=>(by rcases M1.own k hk with h|⟨u,hu,_⟩;exact h;cases hu)
  have hlt1:=M1.lt
  have hne1:=M1.ne
  have RSr:RSb g s n r1 v1 wR:=M1.st.keep (fun k hlt hk=>sR k (by rcases hk with rfl|hk;omega;have:=hnew1 k hk;omega))
  have Fr:=(sR fb (by omega)).trans ((M1.keep.block fb ⟨by omega,hfg,fun u hu=>by cases hu⟩).trans Fn)
  have Lr:HasV 2 wR lvA X.length (comV X):=Ln.keep (fun k hk hlt=>(sR k (fun e=>kA (by rw[hk,e]))).trans (M1.keep.block k ⟨hlt,fun e=>gA (by rw[hk,e]),fun u hu=>by cases hu⟩))
  have Kr:Keep (Lv w.heap.size g [.slice al lead.length cl,blkV fb]) w wR:=(Kn.trans M1.keep (Lv.step Kn.size (fun u hu=>by cases hu))).trans (Q:=fun k=>k<w.heap.size) ⟨bR.os,bR.tape,bR.output,by omega,fun k hk=>sR k (by omega)⟩ (fun k hk=>hk.1)
  have Nr:IsN Rk wR x1 [.int .i64 kc0,.int .i64 kc1,.int .i64 kc2,.int .i64 kc3,.string kc4,.string kc5,.string kc6,.slice kca kcb kcc,.slice kcd kce kcf,.slice kcg kch kci,.bool kc7,.string kc8]:=IsN.frame (fun b hb=>⟨hb,sR b (by have:=hR1 b hb;omega)⟩) x1 _ M1.node
  have N1v:NewV w.heap.size [.slice al lead.length cl,blkV fb] v1:=fun k hk=>.inl (by have:=hnew1 k hk;omega)
  have hxl:x1.h.lead.length≤40000:=M1.few rfl
  have hres1:=M1.res
  have hwf1:=M1.wf
  clear M1 HM1 CNo RSn Fn Ln Kn rn
  obtain ⟨rfl,hee⟩:=hres1
  have ex:xk=x1:=congrArg Prod.fst hee
  have er:rK=r1:=congrArg Prod.snd hee
  clear hee
  subst ex
  subst er
  go_upto_region 14 with (go_at_call 19;refine (flSkip_of g s n rK v1 (.ok b1) _ (RSr.rs (hwf1 _ rfl)) hs hoS).mono ?_;rintro e wC ⟨cS,vC,rS,rfl,RSc,nC,KC,resS⟩;obtain ⟨rfl,rfl⟩:=resS)
  have szC:=KC.size
  have hownC:=RSc.has.own
  have hmC:∀ k,k<wR.heap.size→k≠g→v1.ownBlock≠some k→wC.heap[k]?=wR.heap[k]?:=fun k h1 h2 h3=>KC.block k ⟨h1,h2,fun u hu e=>by rw[List.mem_singleton] at hu;subst hu;exact h3 e⟩
  have hnC:∀ k,vC.ownBlock=some k→wN.heap.size≤k∧(wR.heap.size≤k∨v1.ownBlock=some k):=fun k hk=>(by rcases nC k hk with h|⟨u,hu,h⟩;exact ⟨by omega,.inl h⟩;rw[List.mem_singleton] at hu;subst hu;exact ⟨hnew1 k h,.inr h⟩)
  have Fc:=(hmC fb (by omega) hfg (fun e=>by have:=hnew1 fb e;omega)).trans Fr
  have rc:=(hmC nb (by omega) (by omega) (fun e=>by have:=hnew1 nb e;omega)).trans rR
  have Lc:HasV 2 wC lvA X.length (comV X):=Lr.keep (fun k hk hlt=>hmC k hlt (fun e=>gA (by rw[hk,e])) (fun e=>by have:=hnew1 k e;have:=hownA k hk;omega))
  have Kc:Keep (Lv w.heap.size g [.slice al lead.length cl,blkV fb]) w wC:=Kr.trans KC (Lv.step Kr.size (one_mem N1v))
  have NC:NewV w.heap.size [.slice al lead.length cl,blkV fb] vC:=nC.trans Kr.size (one_mem N1v)
  have szKr:=Kr.size
  have hwCn:∀ k,vC.ownBlock=some k→k≠nb:=fun k e=>by have:=(hnC k e).1;omega
  have hCf:∀ k,vC.ownBlock=some k→k≠fb:=fun k e=>by have:=(hnC k e).1;omega
  have hCl:∀ k,vC.ownBlock=some k→lvA.ownBlock≠some k:=fun k e e2=>by have:=(hnC k e).1;have:=hownA k e2;omega
  have hCw:∀ k,vC.ownBlock=some k→w.heap.size≤k:=fun k e=>by have:=(hnC k e).1;omega
  have hRk:∀ k,Rk k→k<wC.heap.size∧w.heap.size≤k∧k≠g∧k≠fb∧vC.ownBlock≠some k∧lvA.ownBlock≠some k:=fun k hk=>by
   have h1:=hR1 k hk
   have h2:=hlt1 k hk
   refine ⟨by omega,by omega,(hne1 k hk).1,by omega,fun e=>?_,fun e=>by have:=hownA k e;omega⟩
   rcases (hnC k e).2 with h|h
   ·omega
   ·exact (hne1 k hk).2 h
  have Nk:IsN Rk wC xk [.int .i64 kc0,.int .i64 kc1,.int .i64 kc2,.int .i64 kc3,.string kc4,.string kc5,.string kc6,.slice kca kcb kcc,.slice kcd kce kcf,.slice kcg kch kci,.bool kc7,.string kc8]:=IsN.frame (fun b hb=>⟨hb,hmC b (by have:=hlt1 b hb;omega) (hne1 b hb).1 (hne1 b hb).2⟩) xk _ Nr
  have hlk:xk.h.lead.length≤40000:=hxl
  have hov2:o=fldO X xk oV:=by
   rw[←HX.out]
   exact hov
  have hkey:=hnear
  clear hov hnear Nr KC Kr RSr Fr Lr rR
  have qnC:∀ j,wC.cell? ⟨nb,j,none⟩=(#[.int .i64 kc0,.int .i64 kc1,.int .i64 kc2,.int .i64 kc3,.string kc4,.string kc5,.string kc6,.slice kca kcb kcc,.slice kcd kce kcf,.slice kcg kch kci,.bool kc7,.string kc8]:Array Value)[j]?:=fun j=>cell_of_row wC _ j _ _ _ rc
  have CV:=flValue_is w0 hEv g hg0 s hs n col hcol deep (by omega) rS vC kc0 kc1 kc2 kc3 kc4 kc5 kc6 kca kcb kcc kcd kce kcf kcg kch kci kc7 kc8 oV wC RSc (hB.next hg0 Kc (one_mem NC)) xk hkey hoV
  have hownC:=RSc.has.own
  have hC5:=hwCn
  have szKc:=Kc.size
  go_upto_region 17 with (go_at_call 29;refine CV.mono ?_;rintro e wD ⟨cs2,c2,rfl,x2,r2,v2,R2,M2⟩;have rD:=(M2.keep.block nb ⟨by omega,by omega,fun u hu e=>by rw[List.mem_singleton] at hu;subst hu;exact hC5 nb e rfl⟩).trans rc;have FD:=(M2.keep.block fb ⟨by omega,hfg,fun u hu e=>by rw[List.mem_singleton] at hu;subst hu;exact hCf fb e rfl⟩).trans Fc;obtain ⟨y0,y1,y2,y3,y4,y5,y6,ya,yb,yc,yd,ye,yf,yg,yh,yi,y7,y8,rfl⟩:=M2.node.cells12;have HM2:=Lib.hid M2;clear M2)
  obtain ⟨wE,hwE⟩:∃ wE,wE=wD.alloc (.cells #[.int .i64 y0,.int .i64 y1,.int .i64 y2,.int .i64 y3,.string y4,.string y5,.string y6,.slice ya yb yc,.slice yd ye yf,.slice yg yh yi,.bool y7,.string y8] 30):=⟨_,rfl⟩
  have szD:=HM2.out.keep.size
  have zE:wE.heap.size=wD.heap.size+1:=by rw[hwE];simp
  have bE:Below wD.heap.size wD wE:=by rw[hwE];exact (Below.refl _ _).alloc (Nat.le_refl _) _
  have rvE:wE.heap[wD.heap.size]?=some (.cells #[.int .i64 y0,.int .i64 y1,.int .i64 y2,.int .i64 y3,.string y4,.string y5,.string y6,.slice ya yb yc,.slice yd ye yf,.slice yg yh yi,.bool y7,.string y8] 30 (0,0)):=by rw[hwE];exact heap_alloc_new wD _
  have rE:=(bE.block nb (by omega)).trans rD
  have FE:=(bE.block fb (by omega)).trans FD
  rw[←hwE]
  clear hwE rD FD qnC
  have qnE:∀ j,wE.cell? ⟨nb,j,none⟩=(#[.int .i64 kc0,.int .i64 kc1,.int .i64 kc2,.int .i64 kc3,.string kc4,.string kc5,.string kc6,.slice kca kcb kcc,.slice kcd kce kcf,.slice kcg kch kci,.bool kc7,.string kc8]:Array Value)[j]?:=fun j=>cell_of_row wE _ j _ _ _ rE
  have qvE:∀ j,wE.cell? ⟨wD.heap.size,j,none⟩=(#[.int .i64 y0,.int .i64 y1,.int .i64 y2,.int .i64 y3,.string y4,.string y5,.string y6,.slice ya yb yc,.slice yd ye yf,.slice yg yh yi,.bool y7,.string y8]:Array Value)[j]?:=fun j=>cell_of_row wE _ j _ _ _ rvE
  have qfF:∀ ob j,(wE.alloc ob).cell? ⟨fb,j,none⟩=(#[.int .i64 a,lvA,.slice none 0 0]:Array Value)[j]?:=fun ob j=>cell_of_row _ _ j _ _ _ ((heap_alloc_old wE ob (show fb<wE.heap.size by omega)).trans FE)
  have ffF:∀ ob j,(wE.alloc ob).frozen? ⟨fb,j,none⟩=false:=fun ob j=>frozen_of_row _ _ j _ _ ((heap_alloc_old wE ob (show fb<wE.heap.size by omega)).trans FE)
  have HC:=Lib.hid (And.intro Lc (And.intro Kc RSc))
  clear CV Lc Kc RSc rc Fc
  go_wp2
  go_ret
  obtain ⟨Lc,Kc,RSc⟩:=HC.out
  have M2:=HM2.out
  obtain ⟨wF,hwF⟩:∃ wF,wF=(wE.alloc (.cells #[.int .i64 kc0,.int .i64 kc1,.int .i64 kc2,.int .i64 kc3,.string kc4,.string kc5,.string kc6,.slice kca kcb kcc,.slice kcd kce kcf,.slice kcg kch kci,.bool kc7,.string kc8,.int .i64 y0,.int .i64 y1,.int .i64 y2,.int .i64 y3,.string y4,.string y5,.string y6,.slice ya yb yc,.slice yd ye yf,.slice yg yh yi,.bool y7,.string y8] 30)).setCell ⟨fb,2,none⟩ (.slice (some ⟨wE.heap.size,0,none⟩) 2 2):=⟨_,rfl⟩
  have zF:wF.heap.size=wE.heap.size+1:=by rw[hwF];simp[World.setCell]
  have sF:∀ k,k<wE.heap.size→k≠fb→wF.heap[k]?=wE.heap[k]?:=fun k h1 h2=>by rw[hwF,heap_setCell_other _ _ _ _ h2];exact heap_alloc_old _ _ h1
  have oF:wF.os=wE.os∧wF.tape=wE.tape∧wF.output=wE.output:=by rw[hwF];exact ⟨rfl,rfl,rfl⟩
  have rF:wF.heap[wE.heap.size]?=some (.cells #[.int .i64 kc0,.int .i64 kc1,.int .i64 kc2,.int .i64 kc3,.string kc4,.string kc5,.string kc6,.slice kca kcb kcc,.slice kcd kce kcf,.slice kcg kch kci,.bool kc7,.string kc8,.int .i64 y0,.int .i64 y1,.int .i64 y2,.int .i64 y3,.string y4,.string y5,.string y6,.slice ya yb yc,.slice yd ye yf,.slice yg yh yi,.bool y7,.string y8] 30 (0,0)):=by rw[hwF,heap_setCell_other _ _ _ _ (show wE.heap.size≠fb by omega)];exact heap_alloc_new wE _
  have FF:wF.heap[fb]?=some (.cells #[.int .i64 a,lvA,.slice (some ⟨wE.heap.size,0,none⟩) 2 2] 55 (0,0)):=by rw[hwF];exact heap_setCell_same _ _ 2 _ _ _ ((heap_alloc_old _ _ (show fb<wE.heap.size by omega)).trans FE)
  first|rw[←hwF] | rw[show wD.heap.size+1=wE.heap.size from zE.symm,←hwF] | (rw[zE] at hwF;rw[←hwF])
  have far:∀ k,k<wD.heap.size→k≠fb→wF.heap[k]?=wD.heap[k]?:=fun k h1 h2=>(sF k (by omega) h2).trans (bE.block k h1)
  have hnew2:∀ k,v2.ownBlock=some k→wC.heap.size≤k∨vC.ownBlock=some k:=fun k hk=>(by rcases M2.new k hk with h|⟨u,hu,h⟩;exact .inl h;rw[List.mem_singleton] at hu;subst hu;exact .inr h)
  have hR2:∀ k,R2 k→wC.heap.size≤k∨vC.ownBlock=some k:=fun k hk=>(by rcases M2.own k hk with h|⟨u,hu,h⟩;exact .inl h;rw[List.mem_singleton] at hu;subst hu;exact .inr h)
  have hv2o:=M2.st.has.own
  have v2f:∀ k,v2.ownBlock=some k→k≠fb:=fun k hk=>(by rcases hnew2 k hk with h|h;omega;exact hCf k h)
  have RF:RSb g s n r2 v2 wF:=M2.st.keep (fun k hlt hk=>far k hlt (by rcases hk with rfl|hk;exact fun e=>hfg e.symm;exact v2f k hk))
  have LF:HasV 2 wF lvA X.length (comV X):=Lc.keep (fun k hk hlt=>(far k (by omega) (fun e=>fA (by rw[hk,e]))).trans (M2.keep.block k ⟨hlt,fun e=>gA (by rw[hk,e]),fun u hu e=>by rw[List.mem_singleton] at hu;subst hu;exact hCl k e hk⟩))
  have KF:Keep (Lv w.heap.size g [.slice al lead.length cl,blkV fb]) w wF:=(Kc.trans M2.keep (Lv.step Kc.size (one_mem NC))).trans (Q:=fun k=>k<w.heap.size∧k≠fb) ⟨oF.1.trans bE.os,oF.2.1.trans bE.tape,oF.2.2.trans bE.output,by omega,fun k hk=>far k (by have:=hk.1;omega) hk.2⟩ (fun k hk=>⟨hk.1,fun e=>hk.2.2 (blkV fb) (by simp) (by rw[e];rfl)⟩)
  have NF:NewV w.heap.size [.slice al lead.length cl,blkV fb] v2:=M2.new.trans Kc.size (one_mem NC)
  have N2:IsN R2 wF x2 [.int .i64 y0,.int .i64 y1,.int .i64 y2,.int .i64 y3,.string y4,.string y5,.string y6,.slice ya yb yc,.slice yd ye yf,.slice yg yh yi,.bool y7,.string y8]:=IsN.frame (fun b hb=>⟨hb,far b (M2.lt b hb) (by rcases hR2 b hb with h|h;omega;exact hCf b h)⟩) x2 _ M2.node
  have N1:IsN Rk wF xk [.int .i64 kc0,.int .i64 kc1,.int .i64 kc2,.int .i64 kc3,.string kc4,.string kc5,.string kc6,.slice kca kcb kcc,.slice kcd kce kcf,.slice kcg kch kci,.bool kc7,.string kc8]:=IsN.frame (fun b hb=>⟨hb,(far b (by have:=(hRk b hb).1;omega) (hRk b hb).2.2.2.1).trans (M2.keep.block b ⟨(hRk b hb).1,(hRk b hb).2.2.1,fun u hu e=>by rw[List.mem_singleton] at hu;subst hu;exact (hRk b hb).2.2.2.2.1 e⟩)⟩) xk _ Nk
  refine ⟨c2,r2,v2,rfl,RF,NF,KF,fun e=>v2f fb e rfl,?_⟩
  have hres:=M2.res
  rw[hov2]
  cases oV with
  | bad q k=>exact hres
  | ok y=>exact ⟨hres.1,(congrArg Prod.snd hres.2).symm,M2.wf _ rfl,(fun z hz=>by simp at hz;subst hz;exact hlk),by
   have hy:y.1=x2:=congrArg Prod.fst hres.2
   show ∃ lv kb m cap arr R,FndM g fb a w wF [.slice al lead.length cl,blkV fb] v2 X [xk,y.1] lv kb m cap arr R
   rw[hy]
   exact ⟨lvA,wE.heap.size,2,2,#[.int .i64 kc0,.int .i64 kc1,.int .i64 kc2,.int .i64 kc3,.string kc4,.string kc5,.string kc6,.slice kca kcb kcc,.slice kcd kce kcf,.slice kcg kch kci,.bool kc7,.string kc8,.int .i64 y0,.int .i64 y1,.int .i64 y2,.int .i64 y3,.string y4,.string y5,.string y6,.slice ya yb yc,.slice yd ye yf,.slice yg yh yi,.bool y7,.string y8],fun k=>Rk k∨R2 k,⟨FF,LF,rF,⟨rfl,Nat.le_refl _,by decide,Nat.le_refl _⟩,IsKL.two (N1.frame' (fun b hb=>.inl hb)) (N2.frame' (fun b hb=>.inr hb)),⟨by omega,fun e=>by have:=hv2o _ e;omega,fun e=>by have:=LF.own _ e;have:=hownA _ e;omega⟩,⟨Na,gA,fA,fun k hk e=>by rcases hnew2 k e with h|h;have:=hownA k hk;omega;exact hCl k h hk⟩,fun k hk=>by
    rcases hk with hk|hk
    ·obtain ⟨q1,q2,q3,q4,q5,q6⟩:=hRk k hk
     exact ⟨by omega,q2,by omega,fun e=>by rcases hnew2 k e with h|h;omega;exact q5 h,q6⟩
    ·have q1:=M2.lt k hk
     refine ⟨by omega,?_,by omega,(M2.ne k hk).2,fun e=>?_⟩
     ·rcases hR2 k hk with h|h
      ·omega
      ·exact hCw k h
     ·rcases hR2 k hk with h|h
      ·have:=hownA k e;omega
      ·exact hCl k h e⟩⟩⟩
theorem flField_is (w0:World) (hEv:Env w0) (g:Nat) (hg0:w0.heap.size≤g) (s:ByteArray) (hs:s.size≤10000) (n:Int) (col:Nat→Nat→Rd (NT × Nat)→Prop) (hcol:CollC w0 g s n col) (deep:Nat) (hd:deep≤90) (p fin fb:Nat) (a:Int) (lv:Value) (lead:Coms) (o:Rd (Coms × List NT × Rst)) (w:World) (h:RS g s n ⟨[],false,fin,p⟩ (.slice none 0 0) w) (hF:w.heap[fb]?=some (.cells #[.int .i64 a,lv,.slice none 0 0] 55 (0,0))) (hL:HasV 2 w lv lead.length (comV lead)) (hlg:lv.ownBlock≠some g) (hlf:lv.ownBlock≠some fb) (hfg:fb≠g) (hll:lead.length≤20000) (hB:Bs w0 w [lv,blkV fb]) (ho:fieldP s n col lead deep p o) :
  Calls Tryz.prog 17 #[.pointer (some ⟨g,0,none⟩),.pointer (some ⟨fb,0,none⟩),.int .i64 (deep:Int)] w fun e w'=>FldPost g s n fb a w [lv,blkV fb] o e w':=by
 unfold fieldP at ho
 cases hq:queryB s p with
 | true=>
  rw[hq,if_pos rfl] at ho
  rcases ho with ⟨q,c,h1,rfl⟩|⟨b,h1,h2⟩
  ·exact flField_qbad g s hs n deep p fin fb a lv lead _ w h hF hL hlg hlf hfg hq q c h1 rfl
  ·have hbf:b.fin=p+1:=by
    obtain ⟨L,S,E,C,_,e⟩:=h1
    split at e
    ·injection e with e;rw[e];rfl
    ·cases e
   rw[←hbf] at h2
   by_cases hsl:signB s b.at' false=true∨lacksB s b.at'=true
   ·rw[if_pos hsl] at h2
    have hv:∃ oV,valueP s n col voidN deep ⟨[],false,b.fin,b.at'⟩ oV∧o=fldO (lead++b.l) voidN oV:=by
     rcases h2 with ⟨q,c,h3,e⟩|⟨y,h3,e⟩
     ·exact ⟨_,h3,e⟩
     ·exact ⟨_,h3,e⟩
    obtain ⟨oV,h3,hov⟩:=hv
    cases hsg:signB s b.at' false with
    | true=>exact flField_qsign w0 hEv g hg0 s hs n col hcol deep hd p fin fb a lv lead o w h hF hL hlg hlf hfg hll hB hq b h1 hsg oV h3 hov
    | false=>exact flField_qends w0 hEv g hg0 s hs n col hcol deep hd p fin fb a lv lead o w h hF hL hlg hlf hfg hll hB hq b h1 hsg (by rcases hsl with e|e;rw[hsg] at e;cases e;exact e) oV h3 hov
   ·rw[if_neg hsl] at h2
    have hsg:signB s b.at' false=false:=by cases e:signB s b.at' false with|true=>exact absurd (.inl e) hsl|false=>rfl
    have hla:lacksB s b.at'=false:=by cases e:lacksB s b.at' with|true=>exact absurd (.inr e) hsl|false=>rfl
    rcases h2 with ⟨q,c,h3,e⟩|⟨⟨xk,rK⟩,h3,h4⟩
    ·exact flField_qkey_nbad w0 hEv g hg0 s hs n col hcol deep hd p fin fb a lv lead o w h hF hL hlg hlf hfg hll hB hq b h1 hsg hla q c h3 e
    ·rcases h4 with ⟨q,c,h5,e⟩|⟨b1,h5,h6⟩
     ·exact flField_qkey_sbad w0 hEv g hg0 s hs n col hcol deep hd p fin fb a lv lead o w h hF hL hlg hlf hfg hll hB hq b h1 hsg hla xk rK h3 q c h5 e
     ·rcases h6 with ⟨q,c,h7,e⟩|⟨y,h7,e⟩
      ·exact flField_qkey_ok w0 hEv g hg0 s hs n col hcol deep hd p fin fb a lv lead o w h hF hL hlg hlf hfg hll hB hq b h1 hsg hla xk rK h3 b1 h5 _ h7 e
      ·exact flField_qkey_ok w0 hEv g hg0 s hs n col hcol deep hd p fin fb a lv lead o w h hF hL hlg hlf hfg hll hB hq b h1 hsg hla xk rK h3 b1 h5 _ h7 e
 | false=>
  rw[hq,if_neg (by decide)] at ho
  cases hsg:signB s p false with
  | true=>
   rw[hsg,if_pos rfl] at ho
   have hv:∃ oV,valueP s n col voidN deep (fresh p) oV∧o=fldO lead voidN oV:=by
    rcases ho with ⟨q,c,h3,e⟩|⟨y,h3,e⟩
    ·exact ⟨_,h3,e⟩
    ·exact ⟨_,h3,e⟩
   obtain ⟨oV,h3,hov⟩:=hv
   have h4:valueP s n col voidN deep ⟨[],false,fin,p⟩ oV:=by
    unfold valueP at h3 ⊢
    rw[if_pos (show signB s (fresh p).at' (nearN voidN)=true from hsg)] at h3
    rw[if_pos (show signB s (Rst.mk [] false fin p).at' (nearN voidN)=true from hsg)]
    exact h3
   exact flField_void w0 hEv g hg0 s hs n col hcol deep hd p fin fb a lv lead o w h hF hL hlg hlf hfg hll hB hq hsg oV h4 hov
  | false=>
   rw[hsg,if_neg (by decide)] at ho
   rcases ho with ⟨q,c,h3,e⟩|⟨⟨xk,rK⟩,h3,h4⟩
   ·exact flField_key_nbad w0 hEv g hg0 s hs n col hcol deep hd p fin fb a lv lead o w h hF hL hlg hlf hfg hll hB hq hsg q c h3 e
   ·rcases h4 with ⟨q,c,h5,e⟩|⟨b1,h5,h6⟩
    ·exact flField_key_sbad w0 hEv g hg0 s hs n col hcol deep hd p fin fb a lv lead o w h hF hL hlg hlf hfg hll hB hq hsg xk rK h3 q c h5 e
    ·rcases h6 with ⟨q,c,h7,e⟩|⟨y,h7,e⟩
     ·exact flField_key_ok w0 hEv g hg0 s hs n col hcol deep hd p fin fb a lv lead o w h hF hL hlg hlf hfg hll hB hq hsg xk rK h3 b1 h5 _ h7 e
     ·exact flField_key_ok w0 hEv g hg0 s hs n col hcol deep hd p fin fb a lv lead o w h hF hL hlg hlf hfg hll hB hq hsg xk rK h3 b1 h5 _ h7 e
end Go.Proofs.YtncngeamdechmaaGreatDoor
