/- Parts of the proof, put together from smaller texts (blanks that Lean does not want are struck). Conditions: those that each theorem writes out. -/
import Derived.Deep.AppendLies
import Derived.Test.YtncngeamdechmaaGreatDoorZ12
namespace Go.Proofs.YtncngeamdechmaaGreatDoor
open Go.RowKit
theorem step_appendH {ops:Array Oper} {o:Oper} {a:Act} {w:World} {K:Act→World→Prop} {Q:Exit→Act→World→Prop} {E:Prop} (hgd:o.guard=none) (s x:Operand)
  (ho:o.op=.call { callee:=.builtin .append,args:=#[s,x],argTypes:=#[28,28] })
  (R:Nat→Prop) (v v2:Value) (xs ys:Coms) (hs:a.eval s=v) (hx:a.eval x=v2) (hv:HasV 2 w v xs.length (comV xs)) (hv2:ComsR R w v2 ys) (hn:xs.length+ys.length≤1000000000)
  (h:∀ v' w',HasV 2 w' v' (xs++ys).length (comV (xs++ys))→w.grownBy w' v.ownBlock→(v'.ownBlock=v.ownBlock∨v'.ownBlock=some w.heap.size)→K (a.put o.dst v') w') :
  if Region.wanted o (yielded ops a.tmps)=true then Oper.wp Tryz.prog o a w K Q else E:=by
 obtain ⟨i0,hi,hz0,hz1,hz2⟩:=info_parts infoC
 have hw:Region.wanted o (yielded ops a.tmps)=true:=by simp[Region.wanted,hgd]
 rw[if_pos hw]
 obtain ⟨v',w',hrun,h1,h2,h3,_,_⟩:=run_append_has (P:=Tryz.prog) 28 28 o.type 41 i0 (.agg #[.string ByteArray.empty,.int .i64 0]) 2 24 Tryz.underlying28 hi hz0 hz1 hz2 rfl (by decide) w v xs.length (comV xs) hv v2 ys.length (comV ys) (src_coms hv2) (by unfold maxLen;omega) (by omega)
 unfold Oper.wp
 simp[execOp,ho,resolve,invoke,builtin,hs,hx,hrun,Result.andThen]
 refine h v' w' ?_ h2 h3
 rw[List.length_append,comV_append]
 exact h1
theorem nodes_end {lv lv5:Value} {kb:Nat} {arr:Array Value} {xs:Coms} {m:Int} {w W w5 w6:World} (hb:Below w.heap.size w W) (hk:W.heap[kb]?=some (.cells arr 30 (0,0))) (g5:W.grownBy w5 lv.ownBlock) (hlk:lv.ownBlock≠some kb)
  (o5:HasV 2 w5 lv5 xs.length (comV xs)) (n5:lv5.ownBlock=lv.ownBlock∨lv5.ownBlock=some W.heap.size) (h6:w6.heap=((w5.setCell ⟨kb,8,none⟩ lv5).setCell ⟨kb,3,none⟩ (.int .i64 m)).heap∧w6.os=w5.os∧w6.tape=w5.tape∧w6.output=w5.output) :
  w6.heap[kb]?=some (.cells ((arr.setIfInBounds 8 lv5).setIfInBounds 3 (.int .i64 m)) 30 (0,0))∧HasV 2 w6 lv5 xs.length (comV xs)∧lv5.ownBlock≠some kb∧NewV w.heap.size [lv] lv5∧Keep (fun k=>k<w.heap.size∧k≠kb∧lv.ownBlock≠some k) w w6:=by
 have hkb:kb<W.heap.size:=(Array.getElem?_eq_some_iff.1 hk).1
 have z1:=hb.size
 have z5:=g5.size
 have hne:lv5.ownBlock≠some kb:=by
  rcases n5 with e|e
  ·rw[e];exact hlk
  ·rw[e];intro h;injection h with h;omega
 have hset:∀ k,k≠kb→w6.heap[k]?=w5.heap[k]?:=fun k hk=>by
  rw[h6.1,heap_setCell_other _ _ _ _ hk,heap_setCell_other _ _ _ _ hk]
 refine ⟨?_,o5.keep fun k hk _=>hset k (fun e=>hne (by rw[hk,e])),hne,fun k hk=>?_,⟨?_,?_,?_,?_,fun k hk=>?_⟩⟩
 ·rw[h6.1]
  exact heap_setCell_same _ _ 3 _ _ _ (heap_setCell_same _ _ 8 _ _ _ ((g5.block kb hkb (fun e=>hlk e.symm)).trans hk))
 ·rcases n5 with e|e
  ·exact .inr ⟨lv,by simp,by rw[←e];exact hk⟩
  ·rw[e] at hk;injection hk with hk;exact .inl (by omega)
 ·exact h6.2.1.trans (g5.os.trans hb.os)
 ·exact h6.2.2.1.trans (g5.tape.trans hb.tape)
 ·exact h6.2.2.2.trans (g5.output.trans hb.output)
 ·have:w6.heap.size=w5.heap.size:=by rw[h6.1];simp[World.setCell]
  omega
 ·obtain ⟨k1,k2,k3⟩:=hk
  rw[hset k k2,g5.block k (by omega) (fun e=>k3 e.symm),hb.block k k1]
set_option maxRecDepth 100000 in
set_option maxHeartbeats 3200000 in
theorem flNodes_is (g:Nat) (s:ByteArray) (n p e0:Int) (v:Value) (nr:Bool) (lv:Value) (lead l0:Coms) (kb m cap p0 k0 m0:Nat) (kd:Int) (arr:Array Value) (R:Nat→Prop) (w:World) (hA:FlAt g s n p e0 v nr w) (hs:s.size≤10000) (hp0:p0≤s.size) (hAb:Abv s p0 k0 m0)
  (hl:HasV 2 w lv lead.length (comV lead)) (hk:w.heap[kb]?=some (.cells arr 30 (0,0))) (hsz:12≤arr.size) (hm:1≤m) (hcond:kd=3→m≠2) (h8:∃ v8,arr[8]?=some v8∧ComsR R w v8 l0) (hkg:kb≠g) (hlk:lv.ownBlock≠some kb) (hlg:lv.ownBlock≠some g) (hRlt:∀ b,R b→b<w.heap.size) (hn:lead.length+l0.length≤1000000) :
  Calls Tryz.prog 23 #[.pointer (some ⟨g,0,none⟩),.agg #[.int .i64 (p0:Int),lv,.slice (some ⟨kb,0,none⟩) m cap],.int .i64 kd] w fun e w'=>e=.returned (.slice (some ⟨kb,0,none⟩) m cap)∧∃ lv5,
   w'.heap[kb]?=some (.cells ((arr.setIfInBounds 8 lv5).setIfInBounds 3 (.int .i64 (m0:Int))) 30 (0,0))∧HasV 2 w' lv5 (lead++l0).length (comV (lead++l0))∧lv5.ownBlock≠some kb∧NewV w.heap.size [lv] lv5∧Keep (fun k=>k<w.heap.size∧k≠kb∧lv.ownBlock≠some k) w w':=by
 have hcp:clampN (p0:Int) s.size=p0:=clampN_self p0 s.size hp0
 have CA:=fun W=>rowsAbove_is m0 p0 k0 s (p0:Int) W (by omega) hcp hAb
 have hg:=hA.lt
 have hkw:kb<w.heap.size:=(Array.getElem?_eq_some_iff.1 hk).1
 obtain ⟨v8,h8,hC⟩:=h8
 obtain ⟨a8,c8',rfl,hC2⟩:=hC
 obtain ⟨al,cl,rfl⟩:=hl.form
 obtain ⟨W,hW⟩:∃ W,W=w.alloc (.cells #[.int .i64 (p0:Int),.slice al lead.length cl,.slice (some ⟨kb,0,none⟩) m cap] 55):=⟨_,rfl⟩
 have b1:Below w.heap.size w W:=by rw[hW];exact (Below.refl _ _).alloc (Nat.le_refl _) _
 have z1:W.heap.size=w.heap.size+1:=by rw[hW];simp
 have r1:W.heap[w.heap.size]?=some (.cells #[.int .i64 (p0:Int),.slice al lead.length cl,.slice (some ⟨kb,0,none⟩) m cap] 55 (0,0)):=by rw[hW];exact heap_alloc_new w _
 have q1:∀ j,W.cell? ⟨w.heap.size,j,none⟩=(#[.int .i64 (p0:Int),.slice al lead.length cl,.slice (some ⟨kb,0,none⟩) m cap]:Array Value)[j]?:=fun j=>cell_of_row W _ j _ _ _ r1
 have hkW:W.heap[kb]?=some (.cells arr 30 (0,0)):=(b1.block kb hkw).trans hk
 have kz:∀ j,W.frozen? ⟨kb,j,none⟩=false:=fun j=>frozen_of_row W _ j _ _ hkW
 have c8:W.cell? ⟨kb,8,none⟩=some (.slice a8 l0.length c8'):=by rw[cell_of_row W kb _ arr _ (0,0) hkW];exact h8
 have c3:W.cell? ⟨kb,3,none⟩=some (arr[3]'(by omega)):=by rw[cell_of_row W kb _ arr _ (0,0) hkW,Array.getElem?_eq_getElem]
 have hkl:kb<W.heap.size:=by omega
 have hAW:=hA.below b1 hg
 have HL:=Lib.hid (hl.below b1 (Nat.le_refl _))
 have HC:=Lib.hid ((show ComsR R w (.slice a8 l0.length c8') l0 from ⟨a8,c8',rfl,hC2⟩).frame (R':=R) (w':=W) (fun b hb=>⟨hb,b1.block b (hRlt b hb)⟩))
 have hfk:kb≠w.heap.size:=by omega
 have hfl:(Value.slice al lead.length cl).ownBlock≠some w.heap.size:=fun e=>absurd (hl.own _ e) (Nat.lt_irrefl _)
 obtain ⟨X,hX⟩:∃ X,lead++l0=X:=⟨_,rfl⟩
 have HX:=Lib.hid hX
 have HW:=Lib.hid hW
 have HW1:=Lib.hid (And.intro b1 (And.intro hkW hAW))
 have hgW:∀ W':World,W.grownBy W' (Value.slice al lead.length cl).ownBlock→W'.cell? ⟨g,0,none⟩=some (.string s)∧W'.cell? ⟨w.heap.size,0,none⟩=some (.int .i64 (p0:Int)):=fun W' gw=>⟨(World.cell?_of_block (a:=⟨g,0,none⟩) (gw.block g hAW.lt (fun e=>hlg e.symm))).trans (hAW.cell 0),(World.cell?_of_block (a:=⟨w.heap.size,0,none⟩) (gw.block w.heap.size (by omega) (fun e=>hfl e.symm))).trans (q1 0)⟩
 have hm0:(0:Int)<(m:Int):=by omega
 have hmN:0<m:=hm
 rw[hX]
 clear hA hk hl hC2 hX hW r1 hkW h8
 by_cases h3:kd=3
 ·have e3:(kd==3)=true:=by rw[beq_iff_eq];exact h3
  have e2:((m:Int)==2)=false:=by rw[beq_eq_false_iff_ne];have:=hcond h3;omega
  clear h3 hcond
  go_enter Tryz.func23,Tryz.ntmps23
  go_wp2_with fail
  rw[←HW.out]
  go_region_law (first|(refine step_appendH rfl _ _ rfl R (.slice al lead.length cl) (.slice a8 l0.length c8') lead l0 rfl rfl (HL.out.keep (fun _ _ _=>rfl)) (HC.out.frame (fun b hb=>⟨hb,rfl⟩)) (by omega) ?_;intro v5 w5 o5 g5 n5;rw[HX.out] at o5;obtain ⟨a5,c5,rfl⟩:=o5.form;have q8:=(World.cell?_of_block (a:=⟨kb,8,none⟩) (g5.block kb hkl (fun e=>hlk e.symm))).trans c8;have f8:=(World.frozen?_of_block (a:=⟨kb,8,none⟩) (g5.block kb hkl (fun e=>hlk e.symm))).trans (kz 8)))
  all_goals
   have G5:W.grownBy w5 (Value.slice al lead.length cl).ownBlock:=⟨g5.os,g5.tape,g5.output,g5.size,g5.block⟩
   have N5:(Value.slice a5 X.length c5).ownBlock=(Value.slice al lead.length cl).ownBlock∨(Value.slice a5 X.length c5).ownBlock=some W.heap.size:=n5
   obtain ⟨s0,s1⟩:=hgW w5 G5
   obtain ⟨w6,hw6⟩:∃ w6,w6=w5.setCell ⟨kb,8,none⟩ (.slice a5 X.length c5):=⟨_,rfl⟩
   have hS6:w6.drew.cell? ⟨g,0,none⟩=some (.string s)∧w6.drew.cell? ⟨w.heap.size,0,none⟩=some (.int .i64 (p0:Int)):=by
    rw[hw6]
    exact ⟨(World.cell?_setCell_other w5 ⟨kb,8,none⟩ ⟨g,0,none⟩ _ (fun e=>hkg (congrArg Addr.block e))).trans s0,(World.cell?_setCell_other w5 ⟨kb,8,none⟩ ⟨w.heap.size,0,none⟩ _ (fun e=>hfk (congrArg Addr.block e))).trans s1⟩
   have t3:w6.cell? ⟨kb,3,none⟩=some (arr[3]'(by omega)):=by
    rw[hw6]
    exact (World.cell?_setCell_other w5 ⟨kb,8,none⟩ ⟨kb,3,none⟩ _ (fun e=>absurd (show (8:Nat)=3 from congrArg Addr.off e) (by decide))).trans ((World.cell?_of_block (a:=⟨kb,3,none⟩) (G5.block kb hkl (fun e=>hlk e.symm))).trans c3)
   have y3:w6.frozen? ⟨kb,3,none⟩=false:=by
    rw[hw6,World.frozen?_setCell]
    exact (World.frozen?_of_block (a:=⟨kb,3,none⟩) (G5.block kb hkl (fun e=>hlk e.symm))).trans (kz 3)
   generalize arr[3]'(by omega)=u3 at t3
   rw[←hw6]
   have HE:=Lib.hid (And.intro hw6 (And.intro G5 (And.intro N5 o5)))
   clear hw6 G5 N5 o5 g5 n5 s0 s1 q8 f8 c8 c3 kz q1 hgW
   go_wp2_with fail
   refine wp_region_noPanic ?_
   refine wp_region_held_drew (S:=fun w'=>(w'.cell? ⟨g,0,none⟩=some (.string s)∧w'.cell? ⟨w.heap.size,0,none⟩=some (.int .i64 (p0:Int)))) (by kernel_rfl) ?_ (fun hHeld=>?_)
   ·exact hS6
   refine wpAnyH_take (i:=0) (v:=?_) rfl (by kernel_rfl) (by kernel_rfl) (by kernel_rfl) (fun _ _ _ h=>h) (Or.inl ⟨by rfl,?_⟩) (by assumption) ?_
   rotate_left
   ·(intro w hSw;(try dsimp only at hSw);go_simp <;> with_reducible rfl)
   simp only[List.getElem_toArray,List.getElem_cons_zero,Act.put,List.setIfInBounds_toArray,List.set_cons_zero,List.set_cons_succ]
   refine wpAnyH_take (i:=1) (v:=?_) rfl (by kernel_rfl) (by kernel_rfl) (by kernel_rfl) (fun _ _ _ h=>h) (Or.inl ⟨by rfl,?_⟩) (by assumption) ?_
   rotate_left
   ·(intro w hSw;(try dsimp only at hSw);go_simp <;> with_reducible rfl)
   simp only[List.getElem_toArray,List.getElem_cons_zero,List.getElem_cons_succ,Act.put,List.setIfInBounds_toArray,List.set_cons_zero,List.set_cons_succ]
   refine wpAnyH_take (i:=2) (v:=?_) rfl (by kernel_rfl) (by kernel_rfl) (by kernel_rfl) (fun _ _ _ h=>h) (Or.inl ⟨by rfl,?_⟩) (by assumption) ?_
   rotate_left
   ·(intro w hSw;(try dsimp only at hSw);go_simp <;> with_reducible rfl)
   simp only[List.getElem_toArray,List.getElem_cons_zero,List.getElem_cons_succ,Act.put,List.setIfInBounds_toArray,List.set_cons_zero,List.set_cons_succ]
   refine wpAnyH_take (i:=3) (v:=?_) rfl (by kernel_rfl) (by kernel_rfl) (by kernel_rfl) (fun _ _ _ h=>h) (Or.inl ⟨by rfl,?_⟩) (by assumption) ?_
   rotate_left
   ·(intro w hSw;(try dsimp only at hSw);go_simp <;> with_reducible rfl)
   simp only[List.getElem_toArray,List.getElem_cons_zero,List.getElem_cons_succ,Act.put,List.setIfInBounds_toArray,List.set_cons_zero,List.set_cons_succ]
   refine wpAnyH_take (i:=4) (v:=?_) rfl (by kernel_rfl) (by kernel_rfl) (by kernel_rfl) (fun _ _ _ h=>h) (Or.inl ⟨by rfl,?_⟩) (by assumption) ?_
   rotate_left
   ·(intro w hSw;(try dsimp only at hSw);go_simp <;> with_reducible rfl)
   simp only[List.getElem_toArray,List.getElem_cons_zero,List.getElem_cons_succ,Act.put,List.setIfInBounds_toArray,List.set_cons_zero,List.set_cons_succ]
   refine wpAnyH_take (i:=5) (v:=?_) rfl (by kernel_rfl) (by kernel_rfl) (by kernel_rfl) (fun _ _ _ h=>h) (Or.inl ⟨by rfl,?_⟩) (by assumption) ?_
   rotate_left
   ·(intro w hSw;(try dsimp only at hSw);go_simp <;> with_reducible rfl)
   simp only[List.getElem_toArray,List.getElem_cons_zero,List.getElem_cons_succ,Act.put,List.setIfInBounds_toArray,List.set_cons_zero,List.set_cons_succ]
   refine wpAnyH_take (i:=6) (v:=?_) rfl (by kernel_rfl) (by kernel_rfl) (by kernel_rfl) (fun _ _ _ h=>h) (Or.inl ⟨by rfl,?_⟩) (by assumption) ?_
   rotate_left
   ·(intro w hSw;(try dsimp only at hSw);go_simp <;> with_reducible rfl)
   simp only[List.getElem_toArray,List.getElem_cons_zero,List.getElem_cons_succ,Act.put,List.setIfInBounds_toArray,List.set_cons_zero,List.set_cons_succ]
   refine wpAnyH_ready (rs:=[7]) (by kernel_rfl) (by simp) ?_
   refine AllReadyH.cons rfl (fun K hK=>?_) ?_
   rotate_left
   ·exact AllReadyH.nil
   go_simp
   go_at_call 33
   refine (CA _).mono ?_
   rintro e w8 ⟨rfl,rfl⟩
   refine hK.out _ _ ?_ (fun hHeld=>?_)
   ·exact hHeld
   clear hK K
   refine wpAnyH_take (i:=8) (v:=?_) rfl (by kernel_rfl) (by kernel_rfl) (by kernel_rfl) (fun _ _ _ h=>h) (Or.inl ⟨by rfl,?_⟩) (by assumption) ?_
   rotate_left
   ·(intro w hSw;(try dsimp only at hSw);go_simp <;> with_reducible rfl)
   simp only[List.getElem_toArray,List.getElem_cons_zero,List.getElem_cons_succ,Act.put,List.setIfInBounds_toArray,List.set_cons_zero,List.set_cons_succ]
   refine wpAnyH_take (i:=9) (v:=?_) rfl (by kernel_rfl) (by kernel_rfl) (by kernel_rfl) (fun _ _ _ h=>h) (Or.inl ⟨by rfl,?_⟩) (by assumption) ?_
   rotate_left
   ·(intro w hSw;(try dsimp only at hSw);go_simp <;> with_reducible rfl)
   simp only[List.getElem_toArray,List.getElem_cons_zero,List.getElem_cons_succ,Act.put,List.setIfInBounds_toArray,List.set_cons_zero,List.set_cons_succ]
   refine wpAnyH_ready (rs:=[10]) (by kernel_rfl) (by simp) ?_
   refine AllReadyH.cons rfl (fun K hK=>?_) ?_
   rotate_left
   ·exact AllReadyH.nil
   go_simp
   refine hK.out _ _ ?_ (fun hHeld=>?_)
   ·exact ⟨(World.cell?_setCell_other w6 ⟨kb,3,none⟩ ⟨g,0,none⟩ (.int .i64 (m0:Int)) (fun e=>hkg (congrArg Addr.block e))).trans hHeld.1,(World.cell?_setCell_other w6 ⟨kb,3,none⟩ ⟨w.heap.size,0,none⟩ (.int .i64 (m0:Int)) (fun e=>hfk (congrArg Addr.block e))).trans hHeld.2⟩
   clear hK K
   refine wpAnyH_done (by kernel_rfl) ?_ _
   refine NoPanic.normal ?_
   go_wp2
   go_ret
   obtain ⟨hw6,G5,N5,o5⟩:=HE.out
   obtain ⟨b1,hkW,hAW⟩:=HW1.out
   obtain ⟨z1,z2,z3,z4,z5⟩:=nodes_end (m:=(m0:Int)) (w6:=(w6.setCell ⟨kb,3,none⟩ (.int .i64 (m0:Int))).drew) b1 hkW G5 hlk o5 N5 (by rw[hw6];exact ⟨rfl,rfl,rfl,rfl⟩)
   exact ⟨rfl,_,z1,z2,z3,z4,z5⟩
 ·have e3:(kd==3)=false:=by rw[beq_eq_false_iff_ne];exact h3
  clear h3 hcond
  go_enter Tryz.func23,Tryz.ntmps23
  go_wp2_with fail
  rw[←HW.out]
  go_region_law (first|(refine step_appendH rfl _ _ rfl R (.slice al lead.length cl) (.slice a8 l0.length c8') lead l0 rfl rfl (HL.out.keep (fun _ _ _=>rfl)) (HC.out.frame (fun b hb=>⟨hb,rfl⟩)) (by omega) ?_;intro v5 w5 o5 g5 n5;rw[HX.out] at o5;obtain ⟨a5,c5,rfl⟩:=o5.form;have q8:=(World.cell?_of_block (a:=⟨kb,8,none⟩) (g5.block kb hkl (fun e=>hlk e.symm))).trans c8;have f8:=(World.frozen?_of_block (a:=⟨kb,8,none⟩) (g5.block kb hkl (fun e=>hlk e.symm))).trans (kz 8)))
  all_goals
   have G5:W.grownBy w5 (Value.slice al lead.length cl).ownBlock:=⟨g5.os,g5.tape,g5.output,g5.size,g5.block⟩
   have N5:(Value.slice a5 X.length c5).ownBlock=(Value.slice al lead.length cl).ownBlock∨(Value.slice a5 X.length c5).ownBlock=some W.heap.size:=n5
   obtain ⟨s0,s1⟩:=hgW w5 G5
   obtain ⟨w6,hw6⟩:∃ w6,w6=w5.setCell ⟨kb,8,none⟩ (.slice a5 X.length c5):=⟨_,rfl⟩
   have hS6:w6.drew.cell? ⟨g,0,none⟩=some (.string s)∧w6.drew.cell? ⟨w.heap.size,0,none⟩=some (.int .i64 (p0:Int)):=by
    rw[hw6]
    exact ⟨(World.cell?_setCell_other w5 ⟨kb,8,none⟩ ⟨g,0,none⟩ _ (fun e=>hkg (congrArg Addr.block e))).trans s0,(World.cell?_setCell_other w5 ⟨kb,8,none⟩ ⟨w.heap.size,0,none⟩ _ (fun e=>hfk (congrArg Addr.block e))).trans s1⟩
   have t3:w6.cell? ⟨kb,3,none⟩=some (arr[3]'(by omega)):=by
    rw[hw6]
    exact (World.cell?_setCell_other w5 ⟨kb,8,none⟩ ⟨kb,3,none⟩ _ (fun e=>absurd (show (8:Nat)=3 from congrArg Addr.off e) (by decide))).trans ((World.cell?_of_block (a:=⟨kb,3,none⟩) (G5.block kb hkl (fun e=>hlk e.symm))).trans c3)
   have y3:w6.frozen? ⟨kb,3,none⟩=false:=by
    rw[hw6,World.frozen?_setCell]
    exact (World.frozen?_of_block (a:=⟨kb,3,none⟩) (G5.block kb hkl (fun e=>hlk e.symm))).trans (kz 3)
   generalize arr[3]'(by omega)=u3 at t3
   rw[←hw6]
   have HE:=Lib.hid (And.intro hw6 (And.intro G5 (And.intro N5 o5)))
   clear hw6 G5 N5 o5 g5 n5 s0 s1 q8 f8 c8 c3 kz q1 hgW
   go_wp2_with fail
   refine wp_region_noPanic ?_
   refine wp_region_held_drew (S:=fun w'=>(w'.cell? ⟨g,0,none⟩=some (.string s)∧w'.cell? ⟨w.heap.size,0,none⟩=some (.int .i64 (p0:Int)))) (by kernel_rfl) ?_ (fun hHeld=>?_)
   ·exact hS6
   refine wpAnyH_take (i:=0) (v:=?_) rfl (by kernel_rfl) (by kernel_rfl) (by kernel_rfl) (fun _ _ _ h=>h) (Or.inl ⟨by rfl,?_⟩) (by assumption) ?_
   rotate_left
   ·(intro w hSw;(try dsimp only at hSw);go_simp <;> with_reducible rfl)
   simp only[List.getElem_toArray,List.getElem_cons_zero,Act.put,List.setIfInBounds_toArray,List.set_cons_zero,List.set_cons_succ]
   refine wpAnyH_take (i:=1) (v:=?_) rfl (by kernel_rfl) (by kernel_rfl) (by kernel_rfl) (fun _ _ _ h=>h) (Or.inl ⟨by rfl,?_⟩) (by assumption) ?_
   rotate_left
   ·(intro w hSw;(try dsimp only at hSw);go_simp <;> with_reducible rfl)
   simp only[List.getElem_toArray,List.getElem_cons_zero,List.getElem_cons_succ,Act.put,List.setIfInBounds_toArray,List.set_cons_zero,List.set_cons_succ]
   refine wpAnyH_take (i:=2) (v:=?_) rfl (by kernel_rfl) (by kernel_rfl) (by kernel_rfl) (fun _ _ _ h=>h) (Or.inl ⟨by rfl,?_⟩) (by assumption) ?_
   rotate_left
   ·(intro w hSw;(try dsimp only at hSw);go_simp <;> with_reducible rfl)
   simp only[List.getElem_toArray,List.getElem_cons_zero,List.getElem_cons_succ,Act.put,List.setIfInBounds_toArray,List.set_cons_zero,List.set_cons_succ]
   refine wpAnyH_take (i:=3) (v:=?_) rfl (by kernel_rfl) (by kernel_rfl) (by kernel_rfl) (fun _ _ _ h=>h) (Or.inl ⟨by rfl,?_⟩) (by assumption) ?_
   rotate_left
   ·(intro w hSw;(try dsimp only at hSw);go_simp <;> with_reducible rfl)
   simp only[List.getElem_toArray,List.getElem_cons_zero,List.getElem_cons_succ,Act.put,List.setIfInBounds_toArray,List.set_cons_zero,List.set_cons_succ]
   refine wpAnyH_take (i:=4) (v:=?_) rfl (by kernel_rfl) (by kernel_rfl) (by kernel_rfl) (fun _ _ _ h=>h) (Or.inl ⟨by rfl,?_⟩) (by assumption) ?_
   rotate_left
   ·(intro w hSw;(try dsimp only at hSw);go_simp <;> with_reducible rfl)
   simp only[List.getElem_toArray,List.getElem_cons_zero,List.getElem_cons_succ,Act.put,List.setIfInBounds_toArray,List.set_cons_zero,List.set_cons_succ]
   refine wpAnyH_take (i:=5) (v:=?_) rfl (by kernel_rfl) (by kernel_rfl) (by kernel_rfl) (fun _ _ _ h=>h) (Or.inl ⟨by rfl,?_⟩) (by assumption) ?_
   rotate_left
   ·(intro w hSw;(try dsimp only at hSw);go_simp <;> with_reducible rfl)
   simp only[List.getElem_toArray,List.getElem_cons_zero,List.getElem_cons_succ,Act.put,List.setIfInBounds_toArray,List.set_cons_zero,List.set_cons_succ]
   refine wpAnyH_take (i:=6) (v:=?_) rfl (by kernel_rfl) (by kernel_rfl) (by kernel_rfl) (fun _ _ _ h=>h) (Or.inl ⟨by rfl,?_⟩) (by assumption) ?_
   rotate_left
   ·(intro w hSw;(try dsimp only at hSw);go_simp <;> with_reducible rfl)
   simp only[List.getElem_toArray,List.getElem_cons_zero,List.getElem_cons_succ,Act.put,List.setIfInBounds_toArray,List.set_cons_zero,List.set_cons_succ]
   refine wpAnyH_ready (rs:=[7]) (by kernel_rfl) (by simp) ?_
   refine AllReadyH.cons rfl (fun K hK=>?_) ?_
   rotate_left
   ·exact AllReadyH.nil
   go_simp
   go_at_call 33
   refine (CA _).mono ?_
   rintro e w8 ⟨rfl,rfl⟩
   refine hK.out _ _ ?_ (fun hHeld=>?_)
   ·exact hHeld
   clear hK K
   refine wpAnyH_take (i:=8) (v:=?_) rfl (by kernel_rfl) (by kernel_rfl) (by kernel_rfl) (fun _ _ _ h=>h) (Or.inl ⟨by rfl,?_⟩) (by assumption) ?_
   rotate_left
   ·(intro w hSw;(try dsimp only at hSw);go_simp <;> with_reducible rfl)
   simp only[List.getElem_toArray,List.getElem_cons_zero,List.getElem_cons_succ,Act.put,List.setIfInBounds_toArray,List.set_cons_zero,List.set_cons_succ]
   refine wpAnyH_take (i:=9) (v:=?_) rfl (by kernel_rfl) (by kernel_rfl) (by kernel_rfl) (fun _ _ _ h=>h) (Or.inl ⟨by rfl,?_⟩) (by assumption) ?_
   rotate_left
   ·(intro w hSw;(try dsimp only at hSw);go_simp <;> with_reducible rfl)
   simp only[List.getElem_toArray,List.getElem_cons_zero,List.getElem_cons_succ,Act.put,List.setIfInBounds_toArray,List.set_cons_zero,List.set_cons_succ]
   refine wpAnyH_ready (rs:=[10]) (by kernel_rfl) (by simp) ?_
   refine AllReadyH.cons rfl (fun K hK=>?_) ?_
   rotate_left
   ·exact AllReadyH.nil
   go_simp
   refine hK.out _ _ ?_ (fun hHeld=>?_)
   ·exact ⟨(World.cell?_setCell_other w6 ⟨kb,3,none⟩ ⟨g,0,none⟩ (.int .i64 (m0:Int)) (fun e=>hkg (congrArg Addr.block e))).trans hHeld.1,(World.cell?_setCell_other w6 ⟨kb,3,none⟩ ⟨w.heap.size,0,none⟩ (.int .i64 (m0:Int)) (fun e=>hfk (congrArg Addr.block e))).trans hHeld.2⟩
   clear hK K
   refine wpAnyH_done (by kernel_rfl) ?_ _
   refine NoPanic.normal ?_
   go_wp2
   go_ret
   obtain ⟨hw6,G5,N5,o5⟩:=HE.out
   obtain ⟨b1,hkW,hAW⟩:=HW1.out
   obtain ⟨z1,z2,z3,z4,z5⟩:=nodes_end (m:=(m0:Int)) (w6:=(w6.setCell ⟨kb,3,none⟩ (.int .i64 (m0:Int))).drew) b1 hkW G5 hlk o5 N5 (by rw[hw6];exact ⟨rfl,rfl,rfl,rfl⟩)
   exact ⟨rfl,_,z1,z2,z3,z4,z5⟩
set_option maxRecDepth 100000 in
set_option maxHeartbeats 3200000 in
theorem flNodesPair_is (g:Nat) (s:ByteArray) (n p e0:Int) (v:Value) (nr:Bool) (lv:Value) (lead:Coms) (ak:Addr) (ck p0 k0 m0:Nat) (w:World) (hA:FlAt g s n p e0 v nr w) (hs:s.size≤10000) (hp0:p0≤s.size) (hAb:Abv s p0 k0 m0)
  (hl:HasV 2 w lv lead.length (comV lead)) (hlg:lv.ownBlock≠some g) (hn:lead.length≤1000000) :
  Calls Tryz.prog 23 #[.pointer (some ⟨g,0,none⟩),.agg #[.int .i64 (p0:Int),lv,.slice (some ak) 2 ck],.int .i64 3] w fun e w'=>∃ kb lv5,e=.returned (.slice (some ⟨kb,0,none⟩) 1 1)∧w.heap.size≤kb ∧
   w'.heap[kb]?=some (.cells (headC ⟨4,7,(p0:Int),(m0:Int),[],[],[],lead,[],false,[]⟩ (.slice (some ak) 2 ck) lv5 (.slice none 0 0)).toArray 30 (0,0))∧HasV 2 w' lv5 lead.length (comV lead)∧lv5.ownBlock≠some kb∧NewV w.heap.size [lv] lv5∧Keep (fun k=>k<w.heap.size∧lv.ownBlock≠some k) w w':=by
 have hcp:clampN (p0:Int) s.size=p0:=clampN_self p0 s.size hp0
 have CA:=fun W=>rowsAbove_is m0 p0 k0 s (p0:Int) W (by omega) hcp hAb
 have hg:=hA.lt
 obtain ⟨al,cl,rfl⟩:=hl.form
 obtain ⟨kb,hkb⟩:∃ kb,kb=w.heap.size+1:=⟨_,rfl⟩
 obtain ⟨W,hW⟩:∃ W,W=(w.alloc (.cells #[.int .i64 (p0:Int),.slice al lead.length cl,.slice (some ak) 2 ck] 55)).alloc (.cells #[.int .i64 4,.int .i64 7,.int .i64 (p0:Int),.int .i64 0,.string ⟨#[]⟩,.string ⟨#[]⟩,.string ⟨#[]⟩,.slice (some ak) 2 ck,.slice none 0 0,.slice none 0 0,.bool false,.string ⟨#[]⟩] 30):=⟨_,rfl⟩
 have b1:Below w.heap.size w W:=by rw[hW];exact ((Below.refl _ _).alloc (Nat.le_refl _) _).alloc (by simp) _
 have z1:W.heap.size=w.heap.size+2:=by rw[hW];simp
 have r1:W.heap[w.heap.size]?=some (.cells #[.int .i64 (p0:Int),.slice al lead.length cl,.slice (some ak) 2 ck] 55 (0,0)):=by rw[hW];exact (heap_alloc_old _ _ (by simp)).trans (heap_alloc_new w _)
 have q1:∀ j,W.cell? ⟨w.heap.size,j,none⟩=(#[.int .i64 (p0:Int),.slice al lead.length cl,.slice (some ak) 2 ck]:Array Value)[j]?:=fun j=>cell_of_row W _ j _ _ _ r1
 have hkW:W.heap[kb]?=some (.cells #[.int .i64 4,.int .i64 7,.int .i64 (p0:Int),.int .i64 0,.string ⟨#[]⟩,.string ⟨#[]⟩,.string ⟨#[]⟩,.slice (some ak) 2 ck,.slice none 0 0,.slice none 0 0,.bool false,.string ⟨#[]⟩] 30 (0,0)):=by
  rw[hW,hkb]
  have:=heap_alloc_new (w.alloc (.cells #[.int .i64 (p0:Int),.slice al lead.length cl,.slice (some ak) 2 ck] 55)) (.cells #[.int .i64 4,.int .i64 7,.int .i64 (p0:Int),.int .i64 0,.string ⟨#[]⟩,.string ⟨#[]⟩,.string ⟨#[]⟩,.slice (some ak) 2 ck,.slice none 0 0,.slice none 0 0,.bool false,.string ⟨#[]⟩] 30)
  simpa using this
 have kz:∀ j,W.frozen? ⟨kb,j,none⟩=false:=fun j=>frozen_of_row W _ j _ _ hkW
 have c8:W.cell? ⟨kb,8,none⟩=some (.slice none 0 0):=by rw[cell_of_row W kb _ _ _ (0,0) hkW];rfl
 have c3:W.cell? ⟨kb,3,none⟩=some (.int .i64 0):=by rw[cell_of_row W kb _ _ _ (0,0) hkW];rfl
 have hkl:kb<W.heap.size:=by omega
 have hAW:=hA.below b1 hg
 have HL:=Lib.hid (hl.below b1 (Nat.le_refl _))
 have HC:=Lib.hid (ComsR.nil (fun _=>False) W)
 have hfk:kb≠w.heap.size:=by omega
 have hkg:kb≠g:=by omega
 have hlk:(Value.slice al lead.length cl).ownBlock≠some kb:=fun e=>by have:=hl.own _ e;omega
 have hfl:(Value.slice al lead.length cl).ownBlock≠some w.heap.size:=fun e=>absurd (hl.own _ e) (Nat.lt_irrefl _)
 obtain ⟨X,hX⟩:∃ X,lead++[]=X:=⟨_,rfl⟩
 have hXl:X=lead:=by rw[←hX,List.append_nil]
 have HX:=Lib.hid hX
 have HXL:=Lib.hid hXl
 have HW:=Lib.hid (And.intro hW hkb)
 have HW1:=Lib.hid (And.intro b1 (And.intro hkW hAW))
 have hgW:∀ W':World,W.grownBy W' (Value.slice al lead.length cl).ownBlock→W'.cell? ⟨g,0,none⟩=some (.string s)∧W'.cell? ⟨w.heap.size,0,none⟩=some (.int .i64 (p0:Int)):=fun W' gw=>⟨(World.cell?_of_block (a:=⟨g,0,none⟩) (gw.block g hAW.lt (fun e=>hlg e.symm))).trans (hAW.cell 0),(World.cell?_of_block (a:=⟨w.heap.size,0,none⟩) (gw.block w.heap.size (by omega) (fun e=>hfl e.symm))).trans (q1 0)⟩
 have hm0:(0:Int)<1:=by decide
 have hmN:0<1:=by decide
 clear hA hl hX hXl hW r1 hkW hkb
 go_enter Tryz.func23,Tryz.ntmps23
 go_wp2_with fail
 rw[←HW.out.1,←HW.out.2]
 go_region_law (first|(refine step_appendH rfl _ _ rfl (fun _=>False) (.slice al lead.length cl) (.slice none 0 0) lead [] rfl rfl (HL.out.keep (fun _ _ _=>rfl)) (HC.out.frame (fun b hb=>hb.elim)) (by simp;omega) ?_;intro v5 w5 o5 g5 n5;rw[HX.out] at o5;obtain ⟨a5,c5,rfl⟩:=o5.form;have q8:=(World.cell?_of_block (a:=⟨kb,8,none⟩) (g5.block kb hkl (fun e=>hlk e.symm))).trans c8;have f8:=(World.frozen?_of_block (a:=⟨kb,8,none⟩) (g5.block kb hkl (fun e=>hlk e.symm))).trans (kz 8)))
 all_goals
  have G5:W.grownBy w5 (Value.slice al lead.length cl).ownBlock:=⟨g5.os,g5.tape,g5.output,g5.size,g5.block⟩
  have N5:(Value.slice a5 X.length c5).ownBlock=(Value.slice al lead.length cl).ownBlock∨(Value.slice a5 X.length c5).ownBlock=some W.heap.size:=n5
  obtain ⟨s0,s1⟩:=hgW w5 G5
  obtain ⟨w6,hw6⟩:∃ w6,w6=w5.setCell ⟨kb,8,none⟩ (.slice a5 X.length c5):=⟨_,rfl⟩
  have hS6:w6.drew.cell? ⟨g,0,none⟩=some (.string s)∧w6.drew.cell? ⟨w.heap.size,0,none⟩=some (.int .i64 (p0:Int)):=by
   rw[hw6]
   exact ⟨(World.cell?_setCell_other w5 ⟨kb,8,none⟩ ⟨g,0,none⟩ _ (fun e=>hkg (congrArg Addr.block e))).trans s0,(World.cell?_setCell_other w5 ⟨kb,8,none⟩ ⟨w.heap.size,0,none⟩ _ (fun e=>hfk (congrArg Addr.block e))).trans s1⟩
  have t3:w6.cell? ⟨kb,3,none⟩=some (.int .i64 0):=by
   rw[hw6]
   exact (World.cell?_setCell_other w5 ⟨kb,8,none⟩ ⟨kb,3,none⟩ _ (fun e=>absurd (show (8:Nat)=3 from congrArg Addr.off e) (by decide))).trans ((World.cell?_of_block (a:=⟨kb,3,none⟩) (G5.block kb hkl (fun e=>hlk e.symm))).trans c3)
  have y3:w6.frozen? ⟨kb,3,none⟩=false:=by
   rw[hw6,World.frozen?_setCell]
   exact (World.frozen?_of_block (a:=⟨kb,3,none⟩) (G5.block kb hkl (fun e=>hlk e.symm))).trans (kz 3)
  rw[←hw6]
  have HE:=Lib.hid (And.intro hw6 (And.intro G5 (And.intro N5 o5)))
  clear hw6 G5 N5 o5 g5 n5 s0 s1 q8 f8 c8 c3 kz q1 hgW
  go_wp2_with fail
  refine wp_region_noPanic ?_
  refine wp_region_held_drew (S:=fun w'=>(w'.cell? ⟨g,0,none⟩=some (.string s)∧w'.cell? ⟨w.heap.size,0,none⟩=some (.int .i64 (p0:Int)))) (by kernel_rfl) ?_ (fun hHeld=>?_)
  ·exact hS6
  refine wpAnyH_take (i:=0) (v:=?_) rfl (by kernel_rfl) (by kernel_rfl) (by kernel_rfl) (fun _ _ _ h=>h) (Or.inl ⟨by rfl,?_⟩) (by assumption) ?_
  rotate_left
  ·(intro w hSw;(try dsimp only at hSw);go_simp <;> with_reducible rfl)
  simp only[List.getElem_toArray,List.getElem_cons_zero,Act.put,List.setIfInBounds_toArray,List.set_cons_zero,List.set_cons_succ]
  refine wpAnyH_take (i:=1) (v:=?_) rfl (by kernel_rfl) (by kernel_rfl) (by kernel_rfl) (fun _ _ _ h=>h) (Or.inl ⟨by rfl,?_⟩) (by assumption) ?_
  rotate_left
  ·(intro w hSw;(try dsimp only at hSw);go_simp <;> with_reducible rfl)
  simp only[List.getElem_toArray,List.getElem_cons_zero,List.getElem_cons_succ,Act.put,List.setIfInBounds_toArray,List.set_cons_zero,List.set_cons_succ]
  refine wpAnyH_take (i:=2) (v:=?_) rfl (by kernel_rfl) (by kernel_rfl) (by kernel_rfl) (fun _ _ _ h=>h) (Or.inl ⟨by rfl,?_⟩) (by assumption) ?_
  rotate_left
  ·(intro w hSw;(try dsimp only at hSw);go_simp <;> with_reducible rfl)
  simp only[List.getElem_toArray,List.getElem_cons_zero,List.getElem_cons_succ,Act.put,List.setIfInBounds_toArray,List.set_cons_zero,List.set_cons_succ]
  refine wpAnyH_take (i:=3) (v:=?_) rfl (by kernel_rfl) (by kernel_rfl) (by kernel_rfl) (fun _ _ _ h=>h) (Or.inl ⟨by rfl,?_⟩) (by assumption) ?_
  rotate_left
  ·(intro w hSw;(try dsimp only at hSw);go_simp <;> with_reducible rfl)
  simp only[List.getElem_toArray,List.getElem_cons_zero,List.getElem_cons_succ,Act.put,List.setIfInBounds_toArray,List.set_cons_zero,List.set_cons_succ]
  refine wpAnyH_take (i:=4) (v:=?_) rfl (by kernel_rfl) (by kernel_rfl) (by kernel_rfl) (fun _ _ _ h=>h) (Or.inl ⟨by rfl,?_⟩) (by assumption) ?_
  rotate_left
  ·(intro w hSw;(try dsimp only at hSw);go_simp <;> with_reducible rfl)
  simp only[List.getElem_toArray,List.getElem_cons_zero,List.getElem_cons_succ,Act.put,List.setIfInBounds_toArray,List.set_cons_zero,List.set_cons_succ]
  refine wpAnyH_take (i:=5) (v:=?_) rfl (by kernel_rfl) (by kernel_rfl) (by kernel_rfl) (fun _ _ _ h=>h) (Or.inl ⟨by rfl,?_⟩) (by assumption) ?_
  rotate_left
  ·(intro w hSw;(try dsimp only at hSw);go_simp <;> with_reducible rfl)
  simp only[List.getElem_toArray,List.getElem_cons_zero,List.getElem_cons_succ,Act.put,List.setIfInBounds_toArray,List.set_cons_zero,List.set_cons_succ]
  refine wpAnyH_take (i:=6) (v:=?_) rfl (by kernel_rfl) (by kernel_rfl) (by kernel_rfl) (fun _ _ _ h=>h) (Or.inl ⟨by rfl,?_⟩) (by assumption) ?_
  rotate_left
  ·(intro w hSw;(try dsimp only at hSw);go_simp <;> with_reducible rfl)
  simp only[List.getElem_toArray,List.getElem_cons_zero,List.getElem_cons_succ,Act.put,List.setIfInBounds_toArray,List.set_cons_zero,List.set_cons_succ]
  refine wpAnyH_ready (rs:=[7]) (by kernel_rfl) (by simp) ?_
  refine AllReadyH.cons rfl (fun K hK=>?_) ?_
  rotate_left
  ·exact AllReadyH.nil
  go_simp
  go_at_call 33
  refine (CA _).mono ?_
  rintro e w8 ⟨rfl,rfl⟩
  refine hK.out _ _ ?_ (fun hHeld=>?_)
  ·exact hHeld
  clear hK K
  refine wpAnyH_take (i:=8) (v:=?_) rfl (by kernel_rfl) (by kernel_rfl) (by kernel_rfl) (fun _ _ _ h=>h) (Or.inl ⟨by rfl,?_⟩) (by assumption) ?_
  rotate_left
  ·(intro w hSw;(try dsimp only at hSw);go_simp <;> with_reducible rfl)
  simp only[List.getElem_toArray,List.getElem_cons_zero,List.getElem_cons_succ,Act.put,List.setIfInBounds_toArray,List.set_cons_zero,List.set_cons_succ]
  refine wpAnyH_take (i:=9) (v:=?_) rfl (by kernel_rfl) (by kernel_rfl) (by kernel_rfl) (fun _ _ _ h=>h) (Or.inl ⟨by rfl,?_⟩) (by assumption) ?_
  rotate_left
  ·(intro w hSw;(try dsimp only at hSw);go_simp <;> with_reducible rfl)
  simp only[List.getElem_toArray,List.getElem_cons_zero,List.getElem_cons_succ,Act.put,List.setIfInBounds_toArray,List.set_cons_zero,List.set_cons_succ]
  refine wpAnyH_ready (rs:=[10]) (by kernel_rfl) (by simp) ?_
  refine AllReadyH.cons rfl (fun K hK=>?_) ?_
  rotate_left
  ·exact AllReadyH.nil
  go_simp
  refine hK.out _ _ ?_ (fun hHeld=>?_)
  ·exact ⟨(World.cell?_setCell_other w6 ⟨kb,3,none⟩ ⟨g,0,none⟩ (.int .i64 (m0:Int)) (fun e=>hkg (congrArg Addr.block e))).trans hHeld.1,(World.cell?_setCell_other w6 ⟨kb,3,none⟩ ⟨w.heap.size,0,none⟩ (.int .i64 (m0:Int)) (fun e=>hfk (congrArg Addr.block e))).trans hHeld.2⟩
  clear hK K
  refine wpAnyH_done (by kernel_rfl) ?_ _
  refine NoPanic.normal ?_
  go_wp2
  go_ret
  obtain ⟨hw6,G5,N5,o5⟩:=HE.out
  obtain ⟨b1,hkW,hAW⟩:=HW1.out
  obtain ⟨z1,z2,z3,z4,z5⟩:=nodes_end (m:=(m0:Int)) (w6:=(w6.setCell ⟨kb,3,none⟩ (.int .i64 (m0:Int))).drew) b1 hkW G5 hlk o5 N5 (by rw[hw6];exact ⟨rfl,rfl,rfl,rfl⟩)
  have e1:=HXL.out
  subst e1
  exact ⟨kb,_,rfl,by rw[HW.out.2];omega,z1,z2,z3,z4,z5.mono (fun k hk=>⟨hk.1,(by have:=hk.1;rw[HW.out.2];omega),hk.2⟩)⟩
end Go.Proofs.YtncngeamdechmaaGreatDoor
