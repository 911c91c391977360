/- Parts of the proof, put together from smaller texts (blanks that Lean does not want are struck). Conditions: those that each theorem writes out. -/
import Derived.Test.YtncngeamdechmaaGreatDoorZ13
import Derived.Test.YtncngeamdechmaaGreatDoorZ29
namespace Go.Proofs.YtncngeamdechmaaGreatDoor
open Go.RowKit
theorem FndM.back {g fb:Nat} {a:Int} {w wA w':World} {vs:List Value} {v:Value} {lead:Coms} {ks:List NT} {lv:Value} {kb m cap:Nat} {arr:Array Value} {R:Nat→Prop} (h:FndM g fb a wA w' vs v lead ks lv kb m cap arr R) (hs:w.heap.size≤wA.heap.size):FndM g fb a w w' vs v lead ks lv kb m cap arr R:=
 ⟨h.cells,h.lead,h.kids,h.len,h.nodes,⟨Nat.le_trans hs h.new.1,h.new.2⟩,⟨h.leadN.1.trans hs (fun _ hu=>NewV.self hu),h.leadN.2⟩,fun k hk=>⟨(h.own k hk).1,Nat.le_trans hs (h.own k hk).2.1,(h.own k hk).2.2⟩⟩
theorem FldPost.back {g:Nat} {s:ByteArray} {n:Int} {fb:Nat} {a:Int} {w wA w':World} {vs:List Value} {o:Rd (Coms × List NT × Rst)} {e:Ending} (h:FldPost g s n fb a wA vs o e w') (hK:Keep (Lv w.heap.size g vs) w wA):FldPost g s n fb a w vs o e w':=by
 obtain ⟨c,r,v,he,h1,h2,h3,h4,h5⟩:=h
 refine ⟨c,r,v,he,h1,h2.trans hK.size (fun u hu=>NewV.self hu),hK.trans h3 (Lv.step hK.size (fun u hu=>NewV.self hu)),h4,?_⟩
 cases o with
 | bad q k=>exact h5
 | ok y=>
  obtain ⟨g1,g2,g3,g4,lv,kb,m,cap,arr,R,g5⟩:=h5
  exact ⟨g1,g2,g3,g4,lv,kb,m,cap,arr,R,g5.back hK.size⟩
theorem step_appendN {ops:Array Oper} {o:Oper} {a:Act} {w:World} {K:Act→World→Prop} {Q:Exit→Act→World→Prop} {E:Prop} (hgd:o.guard=none) (s x:Operand)
  (ho:o.op=.call { callee:=.builtin .append,args:=#[s,x],argTypes:=#[27,27] })
  (kb b:Nat) (ck cz:List Value) (hs:a.eval s=.slice (some ⟨kb,0,none⟩) 1 1) (hx:a.eval x=.slice (some ⟨b,0,none⟩) 1 1) (lk:ck.length=12) (lz:cz.length=12)
  (h1:∀ j,w.cell? ⟨kb,j,none⟩=ck[j]?) (h2:∀ j,w.cell? ⟨b,j,none⟩=cz[j]?) (oz:∀ u∈cz,u.oneCell'=true)
  (h:∀ c w',2≤c→c≤maxLen→Below w.heap.size w w'→w'.heap.size≤w.heap.size+1→(∃ tail:Array Value,w'.heap[w.heap.size]?=some (.cells ((ck++cz).toArray++tail) 30 (0,0)))→K (a.put o.dst (.slice (some ⟨w.heap.size,0,none⟩) 2 c)) w') :
  if Region.wanted o (yielded ops a.tmps)=true then Oper.wp Tryz.prog o a w K Q else E:=by
 obtain ⟨i0,hi,hz0,hz1,hz2⟩:=info_parts infoN
 have hw:Region.wanted o (yielded ops a.tmps)=true:=by simp[Region.wanted,hgd]
 rw[if_pos hw]
 have hsrc:Src Tryz.prog i0.size 27 (.slice (some ⟨b,0,none⟩) 1 1) 1 cz w:=Src.ofSlice w Tryz.underlying27 _ 1 1 cz (by rw[lz,hz1]) (fun j u hu=>by rw[Addr.add_lit,Nat.zero_add,h2 j];exact hu) oz
 have hold:(Builtin.firstCells i0.size 1 (.slice (some ⟨kb,0,none⟩) 1 1)).run Tryz.prog w.drew=.ok ck.toArray w.drew:=run_firstCells_some w.drew i0.size 1 _ 1 1 ck (by rw[lk,hz1]) (fun j u hu=>by rw[Addr.add_lit,Nat.zero_add];exact (h1 j).trans hu)
 have hrun:=run_append_grow_src (P:=Tryz.prog) w 27 27 o.type 30 i0 _ Tryz.underlying27 hi hz0 (some ⟨kb,0,none⟩) 1 1 ck hold _ 1 cz hsrc (by decide) (by decide) (growslice_fits (by decide) (by rw[hz2];decide))
 have hge:=grownCap_ge w (1+1) 1 30
 have hcm:=grownCap_le_maxLen w (1+1) 1 30 (by decide)
 unfold Oper.wp
 simp[execOp,ho,resolve,invoke,builtin,hs,hx,hrun,Result.andThen]
 exact h _ _ hge hcm ((below_drewN (Below.refl _ _) 1).alloc (Nat.le_refl _) _) (Nat.le_of_eq (by simp)) ⟨_,heap_alloc_new w.drew _⟩
theorem nodes_two {w:World} {b b':Nat} {ck cz:List Value} (hb:b'=b) (lk:ck.length=12) (lz:cz.length=12) (h:∃ tail:Array Value,w.heap[b']?=some (.cells ((ck++cz).toArray++tail) 30 (0,0))) :
  ∃ arr:Array Value,w.heap[b]?=some (.cells arr 30 (0,0))∧24≤arr.size∧arr.toList.take 12=ck∧(∀ j,w.frozen? ⟨b,j,none⟩=false)∧∀ j,j<12→w.cell? ⟨b,12+j,none⟩=cz[j]?:=by
 subst hb
 obtain ⟨tail,h⟩:=h
 refine ⟨_,h,by rw[Array.size_append,List.size_toArray,List.length_append];omega,?_,fun j=>frozen_of_row w _ j _ _ h,fun j hj=>?_⟩
 ·rw[Array.toList_append,List.toList_toArray,List.append_assoc,List.take_append_of_le_length (by omega),List.take_of_length_le (by omega)]
 ·rw[cell_of_row w _ (12+j) _ _ _ h,Array.getElem?_append_left (by rw[List.size_toArray,List.length_append];omega),List.getElem?_toArray,List.getElem?_append_right (by omega),lk,Nat.add_sub_cancel_left]
theorem list24 (l:List Value) (hl:24≤l.length) (u0 u1 u2 u3 u4 u5 u6 u7 u8 u9 u10 u11:Value) :
  ((((((((((((l.set 12 u0).set 13 u1).set 14 u2).set 15 u3).set 16 u4).set 17 u5).set 18 u6).set 19 u7).set 20 u8).set 21 u9).set 22 u10).set 23 u11).take 24=l.take 12++[u0,u1,u2,u3,u4,u5,u6,u7,u8,u9,u10,u11]:=by
 obtain ⟨A,hA⟩:∃ A,A=l.take 12:=⟨_,rfl⟩
 obtain ⟨B,hB⟩:∃ B,B=l.drop 12:=⟨_,rfl⟩
 have e:l=A++B:=by rw[hA,hB,List.take_append_drop]
 have lA:A.length=12:=by rw[hA,List.length_take];omega
 have lB:12≤B.length:=by rw[hB,List.length_drop];omega
 rw[←hA,e]
 clear hA hB e hl
 match B,lB with
 | b0 :: b1 :: b2 :: b3 :: b4 :: b5 :: b6 :: b7 :: b8 :: b9 :: b10 :: b11 :: t,_=>
  simp[lA,List.take_append]
  exact List.take_of_length_le (by omega)
theorem row24_set (w:World) (b:Nat) (arr:Array Value) (T:TypeId) (u0 u1 u2 u3 u4 u5 u6 u7 u8 u9 u10 u11:Value) (hg:w.heap[b]?=some (.cells arr T (0,0))) (hs:24≤arr.size) :
  ∃ arr',((((((((((((w.setCell ⟨b,12,none⟩ u0).setCell ⟨b,13,none⟩ u1).setCell ⟨b,14,none⟩ u2).setCell ⟨b,15,none⟩ u3).setCell ⟨b,16,none⟩ u4).setCell ⟨b,17,none⟩ u5).setCell ⟨b,18,none⟩ u6).setCell ⟨b,19,none⟩ u7).setCell ⟨b,20,none⟩ u8).setCell ⟨b,21,none⟩ u9).setCell ⟨b,22,none⟩ u10).setCell ⟨b,23,none⟩ u11).heap[b]?=some (.cells arr' T (0,0))∧24≤arr'.size∧arr'.toList.take 24=arr.toList.take 12++[u0,u1,u2,u3,u4,u5,u6,u7,u8,u9,u10,u11]:=by
 refine ⟨_,heap_setCell_same _ b 23 _ T u11 (heap_setCell_same _ b 22 _ T u10 (heap_setCell_same _ b 21 _ T u9 (heap_setCell_same _ b 20 _ T u8 (heap_setCell_same _ b 19 _ T u7 (heap_setCell_same _ b 18 _ T u6 (heap_setCell_same _ b 17 _ T u5 (heap_setCell_same _ b 16 _ T u4 (heap_setCell_same _ b 15 _ T u3 (heap_setCell_same _ b 14 _ T u2 (heap_setCell_same _ b 13 _ T u1 (heap_setCell_same _ b 12 _ T u0 hg))))))))))),by simpa only [Array.size_setIfInBounds] using hs,?_⟩
 simp only[Array.toList_setIfInBounds]
 exact list24 _ (by simpa using hs) ..
theorem row24_other (w:World) (b k:Nat) (hk:¬ k=b) (u0 u1 u2 u3 u4 u5 u6 u7 u8 u9 u10 u11:Value):(((((((((((((w.setCell ⟨b,12,none⟩ (u0)).setCell ⟨b,13,none⟩ (u1)).setCell ⟨b,14,none⟩ (u2)).setCell ⟨b,15,none⟩ (u3)).setCell ⟨b,16,none⟩ (u4)).setCell ⟨b,17,none⟩ (u5)).setCell ⟨b,18,none⟩ (u6)).setCell ⟨b,19,none⟩ (u7)).setCell ⟨b,20,none⟩ (u8)).setCell ⟨b,21,none⟩ (u9)).setCell ⟨b,22,none⟩ (u10)).setCell ⟨b,23,none⟩ (u11))).heap[k]?=w.heap[k]?:=by
 rw[heap_setCell_other _ _ _ _ hk,heap_setCell_other _ _ _ _ hk,heap_setCell_other _ _ _ _ hk,heap_setCell_other _ _ _ _ hk,heap_setCell_other _ _ _ _ hk,heap_setCell_other _ _ _ _ hk,heap_setCell_other _ _ _ _ hk,heap_setCell_other _ _ _ _ hk,heap_setCell_other _ _ _ _ hk,heap_setCell_other _ _ _ _ hk,heap_setCell_other _ _ _ _ hk,heap_setCell_other _ _ _ _ hk]
theorem two_A (w:World) (b fb:Nat) (hne:fb≠b) (arr:Array Value) (T T2:TypeId) (f0 f1 f2 u u0 u1 u2 u3 u4 u5 u6 u7 u8 u9 u10 u11:Value) (hg:w.heap[b]?=some (.cells arr T (0,0))) (hs:24≤arr.size) (hf:w.heap[fb]?=some (.cells #[f0,f1,f2] T2 (0,0))) (wF:World) (hF:wF=(((((((((((((w.setCell ⟨b,12,none⟩ (u0)).setCell ⟨b,13,none⟩ (u1)).setCell ⟨b,14,none⟩ (u2)).setCell ⟨b,15,none⟩ (u3)).setCell ⟨b,16,none⟩ (u4)).setCell ⟨b,17,none⟩ (u5)).setCell ⟨b,18,none⟩ (u6)).setCell ⟨b,19,none⟩ (u7)).setCell ⟨b,20,none⟩ (u8)).setCell ⟨b,21,none⟩ (u9)).setCell ⟨b,22,none⟩ (u10)).setCell ⟨b,23,none⟩ (u11))).setCell ⟨fb,2,none⟩ u) :
  ∃ arr',wF.heap[b]?=some (.cells arr' T (0,0))∧24≤arr'.size∧arr'.toList.take 24=arr.toList.take 12++[u0,u1,u2,u3,u4,u5,u6,u7,u8,u9,u10,u11]∧wF.heap[fb]?=some (.cells #[f0,f1,u] T2 (0,0))∧(∀ k,k≠b→k≠fb→wF.heap[k]?=w.heap[k]?)∧wF.heap.size=w.heap.size∧wF.os=w.os∧wF.tape=w.tape∧wF.output=w.output:=by
 obtain ⟨arr',h1,h2,h3⟩:=row24_set w b arr T u0 u1 u2 u3 u4 u5 u6 u7 u8 u9 u10 u11 hg hs
 subst hF
 have bz:=(((((((((((((Below.refl 0 w).setCell (p:=⟨b,12,none⟩) (Nat.zero_le _) u0).setCell (p:=⟨b,13,none⟩) (Nat.zero_le _) u1).setCell (p:=⟨b,14,none⟩) (Nat.zero_le _) u2).setCell (p:=⟨b,15,none⟩) (Nat.zero_le _) u3).setCell (p:=⟨b,16,none⟩) (Nat.zero_le _) u4).setCell (p:=⟨b,17,none⟩) (Nat.zero_le _) u5).setCell (p:=⟨b,18,none⟩) (Nat.zero_le _) u6).setCell (p:=⟨b,19,none⟩) (Nat.zero_le _) u7).setCell (p:=⟨b,20,none⟩) (Nat.zero_le _) u8).setCell (p:=⟨b,21,none⟩) (Nat.zero_le _) u9).setCell (p:=⟨b,22,none⟩) (Nat.zero_le _) u10).setCell (p:=⟨b,23,none⟩) (Nat.zero_le _) u11).setCell (p:=⟨fb,2,none⟩) (Nat.zero_le _) u
 refine ⟨arr',(heap_setCell_other _ _ _ _ (Ne.symm hne)).trans h1,h2,h3,heap_setCell_same _ fb 2 _ T2 u ((row24_other w b fb hne ..).trans hf),fun k h1 h2=>(heap_setCell_other _ _ _ _ h2).trans (row24_other w b k h1 ..),by simp only[World.setCell,Array.size_modify],bz.os,bz.tape,bz.output⟩
theorem two_B (w:World) (b fb:Nat) (hne:fb≠b) (arr:Array Value) (T T2:TypeId) (f0 f1 f2 u u0 u1 u2 u3 u4 u5 u6 u7 u8 u9 u10 u11:Value) (hg:w.heap[b]?=some (.cells arr T (0,0))) (hs:24≤arr.size) (hf:w.heap[fb]?=some (.cells #[f0,f1,f2] T2 (0,0))) (wF:World) (hF:wF=(((((((((((((w.setCell ⟨fb,2,none⟩ u).setCell ⟨b,12,none⟩ (u0)).setCell ⟨b,13,none⟩ (u1)).setCell ⟨b,14,none⟩ (u2)).setCell ⟨b,15,none⟩ (u3)).setCell ⟨b,16,none⟩ (u4)).setCell ⟨b,17,none⟩ (u5)).setCell ⟨b,18,none⟩ (u6)).setCell ⟨b,19,none⟩ (u7)).setCell ⟨b,20,none⟩ (u8)).setCell ⟨b,21,none⟩ (u9)).setCell ⟨b,22,none⟩ (u10)).setCell ⟨b,23,none⟩ (u11))) :
  ∃ arr',wF.heap[b]?=some (.cells arr' T (0,0))∧24≤arr'.size∧arr'.toList.take 24=arr.toList.take 12++[u0,u1,u2,u3,u4,u5,u6,u7,u8,u9,u10,u11]∧wF.heap[fb]?=some (.cells #[f0,f1,u] T2 (0,0))∧(∀ k,k≠b→k≠fb→wF.heap[k]?=w.heap[k]?)∧wF.heap.size=w.heap.size∧wF.os=w.os∧wF.tape=w.tape∧wF.output=w.output:=by
 obtain ⟨arr',h1,h2,h3⟩:=row24_set (w.setCell ⟨fb,2,none⟩ u) b arr T u0 u1 u2 u3 u4 u5 u6 u7 u8 u9 u10 u11 ((heap_setCell_other _ _ _ _ (Ne.symm hne)).trans hg) hs
 subst hF
 have bz:=(((((((((((((Below.refl 0 w).setCell (p:=⟨fb,2,none⟩) (Nat.zero_le _) u).setCell (p:=⟨b,12,none⟩) (Nat.zero_le _) u0).setCell (p:=⟨b,13,none⟩) (Nat.zero_le _) u1).setCell (p:=⟨b,14,none⟩) (Nat.zero_le _) u2).setCell (p:=⟨b,15,none⟩) (Nat.zero_le _) u3).setCell (p:=⟨b,16,none⟩) (Nat.zero_le _) u4).setCell (p:=⟨b,17,none⟩) (Nat.zero_le _) u5).setCell (p:=⟨b,18,none⟩) (Nat.zero_le _) u6).setCell (p:=⟨b,19,none⟩) (Nat.zero_le _) u7).setCell (p:=⟨b,20,none⟩) (Nat.zero_le _) u8).setCell (p:=⟨b,21,none⟩) (Nat.zero_le _) u9).setCell (p:=⟨b,22,none⟩) (Nat.zero_le _) u10).setCell (p:=⟨b,23,none⟩) (Nat.zero_le _) u11
 refine ⟨arr',h1,h2,h3,(row24_other _ b fb hne ..).trans (heap_setCell_same _ fb 2 _ T2 u hf),fun k h1 h2=>(row24_other _ b k h1 ..).trans (heap_setCell_other _ _ _ _ h2),by simp only[World.setCell,Array.size_modify],bz.os,bz.tape,bz.output⟩
set_option maxRecDepth 100000 in
set_option maxHeartbeats 3200000 in
theorem flItem_q_deep (w0:World) (_hEv:Env w0) (g:Nat) (_hg0:w0.heap.size≤g) (s:ByteArray) (hs:s.size≤10000) (n:Int) (col:Nat→Nat→Rd (NT × Nat)→Prop) (_hcol:CollC w0 g s n col) (deep:Nat) (_hd:deep≤80) (p fin fb:Nat) (lv:Value) (lead:Coms) (o:Rd (Coms × List NT × Rst)) (w:World) (h:RS g s n ⟨[],false,fin,p⟩ (.slice none 0 0) w) (hF:w.heap[fb]?=some (.cells #[.int .i64 (p:Int),lv,.slice none 0 0] 55 (0,0))) (hL:HasV 2 w lv lead.length (comV lead)) (_hlg:lv.ownBlock≠some g) (_hlf:lv.ownBlock≠some fb) (_hfg:fb≠g) (_hll:lead.length≤20000) (_hB:Bs w0 w [lv,blkV fb]) (hq:queryB s p=true) (hdk:(40:Int)≤(deep:Int)) (hov:o=.bad p 6) :
  Calls Tryz.prog 15 #[.pointer (some ⟨g,0,none⟩),.pointer (some ⟨fb,0,none⟩),.int .i64 (deep:Int)] w fun e w'=>FldPost g s n fb (p:Int) w [lv,blkV fb] o e w':=by
 have hg:=h.cells.lt
 have hwf:=h.ok
 have htop:=hwf.top
 have hfb:fb<w.heap.size:=(Array.getElem?_eq_some_iff.1 hF).1
 have CQ:=flQuery_is true g s n p (fin:Int) (.slice none 0 0) false w h.cells (by omega) hq
 go_enter Tryz.func15,Tryz.ntmps15
 go_upto_region 2 with (first
  | (go_at_call 24;refine CQ.mono ?_;rintro e w1 ⟨rfl,j1,rfl⟩))
 have b02:Below w.heap.size w (w.drewN j1):=below_drewN (Below.refl _ _) j1
 obtain ⟨wA,hwA⟩:∃ x,x=(w.drewN j1):=⟨_,rfl⟩
 rw[←hwA] at b02 ⊢
 clear hwA CQ
 have RSa:=h.below b02 (Nat.le_refl _)
 have Fa:=(b02.block fb hfb).trans hF
 have La:=hL.below b02 (Nat.le_refl _)
 have Ka:Keep (Lv w.heap.size g [lv,blkV fb]) w wA:=Keep.of b02 (fun k hk=>hk.1)
 have szA:=b02.size
 have hownL:=hL.own
 have HR:=Lib.hid (And.intro RSa Ka)
 clear RSa Ka La hL h
 go_wp2
 go_ret
 obtain ⟨RSa,Ka⟩:=HR.out
 refine ⟨6,⟨[],false,fin,p⟩,.slice none 0 0,rfl,RSa.b,NewV.none,Ka,(fun e=>by cases e),?_⟩
 rw[hov]
 exact ⟨rfl,by decide,rfl⟩
set_option maxRecDepth 100000 in
set_option maxHeartbeats 3200000 in
theorem flItem_c_deep (w0:World) (_hEv:Env w0) (g:Nat) (_hg0:w0.heap.size≤g) (s:ByteArray) (hs:s.size≤10000) (n:Int) (col:Nat→Nat→Rd (NT × Nat)→Prop) (_hcol:CollC w0 g s n col) (deep:Nat) (_hd:deep≤80) (p fin fb:Nat) (lv:Value) (lead:Coms) (o:Rd (Coms × List NT × Rst)) (w:World) (h:RS g s n ⟨[],false,fin,p⟩ (.slice none 0 0) w) (hF:w.heap[fb]?=some (.cells #[.int .i64 (p:Int),lv,.slice none 0 0] 55 (0,0))) (hL:HasV 2 w lv lead.length (comV lead)) (_hlg:lv.ownBlock≠some g) (_hlf:lv.ownBlock≠some fb) (_hfg:fb≠g) (_hll:lead.length≤20000) (_hB:Bs w0 w [lv,blkV fb]) (hq:queryB s p=false) (hsg:signB s p false=true) (hdk:(40:Int)≤(deep:Int)) (hov:o=.bad p 6) :
  Calls Tryz.prog 15 #[.pointer (some ⟨g,0,none⟩),.pointer (some ⟨fb,0,none⟩),.int .i64 (deep:Int)] w fun e w'=>FldPost g s n fb (p:Int) w [lv,blkV fb] o e w':=by
 have hg:=h.cells.lt
 have hwf:=h.ok
 have htop:=hwf.top
 have hfb:fb<w.heap.size:=(Array.getElem?_eq_some_iff.1 hF).1
 have CQ:=flQuery_is false g s n p (fin:Int) (.slice none 0 0) false w h.cells (by omega) hq
 go_enter Tryz.func15,Tryz.ntmps15
 go_upto_region 2 with (first
  | (go_at_call 24;refine CQ.mono ?_;rintro e w1 ⟨rfl,j1,rfl⟩)
  | (go_at_call 25;refine (flColon_x true g s n p (fin:Int) (.slice none 0 0) false 0 0 0 0 ⟨#[]⟩ ⟨#[]⟩ ⟨#[]⟩ none 0 0 none 0 0 none 0 0 false ⟨#[]⟩ _ (h.drewN j1).cells (by omega) (by rw[show decide ((0:Int)=3∨(0:Int)=4∨(0:Int)=2∨(0:Int)=3)=false by decide];exact hsg)).mono ?_;rintro e w2 ⟨rfl,b2⟩))
 have b02:Below w.heap.size w w2:=(below_drewN (Below.refl _ _) j1).trans b2
 obtain ⟨wA,hwA⟩:∃ x,x=w2:=⟨_,rfl⟩
 rw[←hwA] at b02 ⊢
 clear hwA CQ
 have RSa:=h.below b02 (Nat.le_refl _)
 have Fa:=(b02.block fb hfb).trans hF
 have La:=hL.below b02 (Nat.le_refl _)
 have Ka:Keep (Lv w.heap.size g [lv,blkV fb]) w wA:=Keep.of b02 (fun k hk=>hk.1)
 have szA:=b02.size
 have hownL:=hL.own
 have HR:=Lib.hid (And.intro RSa Ka)
 clear RSa Ka La hL h
 go_wp2
 go_ret
 obtain ⟨RSa,Ka⟩:=HR.out
 refine ⟨6,⟨[],false,fin,p⟩,.slice none 0 0,rfl,RSa.b,NewV.none,Ka,(fun e=>by cases e),?_⟩
 rw[hov]
 exact ⟨rfl,by decide,rfl⟩
set_option maxRecDepth 100000 in
set_option maxHeartbeats 3200000 in
theorem flItem_q_field (w0:World) (hEv:Env w0) (g:Nat) (hg0:w0.heap.size≤g) (s:ByteArray) (hs:s.size≤10000) (n:Int) (col:Nat→Nat→Rd (NT × Nat)→Prop) (hcol:CollC w0 g s n col) (deep:Nat) (hd:deep≤80) (p fin fb:Nat) (lv:Value) (lead:Coms) (o:Rd (Coms × List NT × Rst)) (w:World) (h:RS g s n ⟨[],false,fin,p⟩ (.slice none 0 0) w) (hF:w.heap[fb]?=some (.cells #[.int .i64 (p:Int),lv,.slice none 0 0] 55 (0,0))) (hL:HasV 2 w lv lead.length (comV lead)) (hlg:lv.ownBlock≠some g) (hlf:lv.ownBlock≠some fb) (hfg:fb≠g) (hll:lead.length≤20000) (hB:Bs w0 w [lv,blkV fb]) (hq:queryB s p=true) (hdk:¬ (40:Int)≤(deep:Int)) (ho:fieldP s n col lead (deep+1) p o) :
  Calls Tryz.prog 15 #[.pointer (some ⟨g,0,none⟩),.pointer (some ⟨fb,0,none⟩),.int .i64 (deep:Int)] w fun e w'=>FldPost g s n fb (p:Int) w [lv,blkV fb] o e w':=by
 have hg:=h.cells.lt
 have hwf:=h.ok
 have htop:=hwf.top
 have hfb:fb<w.heap.size:=(Array.getElem?_eq_some_iff.1 hF).1
 have CQ:=flQuery_is true g s n p (fin:Int) (.slice none 0 0) false w h.cells (by omega) hq
 go_enter Tryz.func15,Tryz.ntmps15
 go_upto_region 2 with (first
  | (go_at_call 24;refine CQ.mono ?_;rintro e w1 ⟨rfl,j1,rfl⟩))
 have b02:Below w.heap.size w (w.drewN j1):=below_drewN (Below.refl _ _) j1
 obtain ⟨wA,hwA⟩:∃ x,x=(w.drewN j1):=⟨_,rfl⟩
 rw[←hwA] at b02 ⊢
 clear hwA CQ
 have RSa:=h.below b02 (Nat.le_refl _)
 have Fa:=(b02.block fb hfb).trans hF
 have La:=hL.below b02 (Nat.le_refl _)
 have Ka:Keep (Lv w.heap.size g [lv,blkV fb]) w wA:=Keep.of b02 (fun k hk=>hk.1)
 have szA:=b02.size
 have hownL:=hL.own
 have CF:=flField_is w0 hEv g hg0 s hs n col hcol (deep+1) (by omega) p fin fb (p:Int) lv lead o wA RSa Fa La hlg hlf hfg hll (hB.next hg0 Ka (fun u hu=>NewV.self hu)) ho
 rw[show ((deep+1:Nat):Int)=(deep:Int)+1 by omega] at CF
 go_wp2_with fail
 refine CF.mono ?_
 rintro e wB ⟨c,r,v,rfl,hP⟩
 have HP:=Lib.hid hP
 clear hP CF
 go_wp2
 go_ret
 exact FldPost.back ⟨c,r,v,rfl,HP.out⟩ Ka
set_option maxRecDepth 100000 in
set_option maxHeartbeats 3200000 in
theorem flItem_c_field (w0:World) (hEv:Env w0) (g:Nat) (hg0:w0.heap.size≤g) (s:ByteArray) (hs:s.size≤10000) (n:Int) (col:Nat→Nat→Rd (NT × Nat)→Prop) (hcol:CollC w0 g s n col) (deep:Nat) (hd:deep≤80) (p fin fb:Nat) (lv:Value) (lead:Coms) (o:Rd (Coms × List NT × Rst)) (w:World) (h:RS g s n ⟨[],false,fin,p⟩ (.slice none 0 0) w) (hF:w.heap[fb]?=some (.cells #[.int .i64 (p:Int),lv,.slice none 0 0] 55 (0,0))) (hL:HasV 2 w lv lead.length (comV lead)) (hlg:lv.ownBlock≠some g) (hlf:lv.ownBlock≠some fb) (hfg:fb≠g) (hll:lead.length≤20000) (hB:Bs w0 w [lv,blkV fb]) (hq:queryB s p=false) (hsg:signB s p false=true) (hdk:¬ (40:Int)≤(deep:Int)) (ho:fieldP s n col lead (deep+1) p o) :
  Calls Tryz.prog 15 #[.pointer (some ⟨g,0,none⟩),.pointer (some ⟨fb,0,none⟩),.int .i64 (deep:Int)] w fun e w'=>FldPost g s n fb (p:Int) w [lv,blkV fb] o e w':=by
 have hg:=h.cells.lt
 have hwf:=h.ok
 have htop:=hwf.top
 have hfb:fb<w.heap.size:=(Array.getElem?_eq_some_iff.1 hF).1
 have CQ:=flQuery_is false g s n p (fin:Int) (.slice none 0 0) false w h.cells (by omega) hq
 go_enter Tryz.func15,Tryz.ntmps15
 go_upto_region 2 with (first
  | (go_at_call 24;refine CQ.mono ?_;rintro e w1 ⟨rfl,j1,rfl⟩)
  | (go_at_call 25;refine (flColon_x true g s n p (fin:Int) (.slice none 0 0) false 0 0 0 0 ⟨#[]⟩ ⟨#[]⟩ ⟨#[]⟩ none 0 0 none 0 0 none 0 0 false ⟨#[]⟩ _ (h.drewN j1).cells (by omega) (by rw[show decide ((0:Int)=3∨(0:Int)=4∨(0:Int)=2∨(0:Int)=3)=false by decide];exact hsg)).mono ?_;rintro e w2 ⟨rfl,b2⟩))
 have b02:Below w.heap.size w w2:=(below_drewN (Below.refl _ _) j1).trans b2
 obtain ⟨wA,hwA⟩:∃ x,x=w2:=⟨_,rfl⟩
 rw[←hwA] at b02 ⊢
 clear hwA CQ
 have RSa:=h.below b02 (Nat.le_refl _)
 have Fa:=(b02.block fb hfb).trans hF
 have La:=hL.below b02 (Nat.le_refl _)
 have Ka:Keep (Lv w.heap.size g [lv,blkV fb]) w wA:=Keep.of b02 (fun k hk=>hk.1)
 have szA:=b02.size
 have hownL:=hL.own
 have CF:=flField_is w0 hEv g hg0 s hs n col hcol (deep+1) (by omega) p fin fb (p:Int) lv lead o wA RSa Fa La hlg hlf hfg hll (hB.next hg0 Ka (fun u hu=>NewV.self hu)) ho
 rw[show ((deep+1:Nat):Int)=(deep:Int)+1 by omega] at CF
 go_wp2_with fail
 refine CF.mono ?_
 rintro e wB ⟨c,r,v,rfl,hP⟩
 have HP:=Lib.hid hP
 clear hP CF
 go_wp2
 go_ret
 exact FldPost.back ⟨c,r,v,rfl,HP.out⟩ Ka
set_option maxRecDepth 100000 in
set_option maxHeartbeats 3200000 in
theorem flItem_nbad (w0:World) (hEv:Env w0) (g:Nat) (hg0:w0.heap.size≤g) (s:ByteArray) (hs:s.size≤10000) (n:Int) (col:Nat→Nat→Rd (NT × Nat)→Prop) (hcol:CollC w0 g s n col) (deep:Nat) (hd:deep≤80) (p fin fb:Nat) (lv:Value) (lead:Coms) (o:Rd (Coms × List NT × Rst)) (w:World) (h:RS g s n ⟨[],false,fin,p⟩ (.slice none 0 0) w) (hF:w.heap[fb]?=some (.cells #[.int .i64 (p:Int),lv,.slice none 0 0] 55 (0,0))) (hL:HasV 2 w lv lead.length (comV lead)) (hlg:lv.ownBlock≠some g) (hlf:lv.ownBlock≠some fb) (hfg:fb≠g) (_hll:lead.length≤20000) (hB:Bs w0 w [lv,blkV fb]) (hq:queryB s p=false) (hsg:signB s p false=false) (q0:Nat) (c0:Int) (hoK:nodeP s n col deep p (.bad q0 c0)) (hov:o=.bad q0 c0) :
  Calls Tryz.prog 15 #[.pointer (some ⟨g,0,none⟩),.pointer (some ⟨fb,0,none⟩),.int .i64 (deep:Int)] w fun e w'=>FldPost g s n fb (p:Int) w [lv,blkV fb] o e w':=by
 have hg:=h.cells.lt
 have hwf:=h.ok
 have htop:=hwf.top
 have hfb:fb<w.heap.size:=(Array.getElem?_eq_some_iff.1 hF).1
 have CQ:=flQuery_is false g s n p (fin:Int) (.slice none 0 0) false w h.cells (by omega) hq
 go_enter Tryz.func15,Tryz.ntmps15
 go_upto_region 5 with (first
  | (go_at_call 24;refine CQ.mono ?_;rintro e w1 ⟨rfl,j1,rfl⟩)
  | (go_at_call 25;refine (flColon_x false g s n p (fin:Int) (.slice none 0 0) false 0 0 0 0 ⟨#[]⟩ ⟨#[]⟩ ⟨#[]⟩ none 0 0 none 0 0 none 0 0 false ⟨#[]⟩ _ (h.drewN j1).cells (by omega) (by rw[show decide ((0:Int)=3∨(0:Int)=4∨(0:Int)=2∨(0:Int)=3)=false by decide];exact hsg)).mono ?_;rintro e w2 ⟨rfl,b2⟩))
 have b02:Below w.heap.size w w2:=(below_drewN (Below.refl _ _) j1).trans b2
 obtain ⟨wA,hwA⟩:∃ x,x=w2:=⟨_,rfl⟩
 rw[←hwA] at b02 ⊢
 clear hwA CQ
 have RSa:=h.below b02 (Nat.le_refl _)
 have Fa:=(b02.block fb hfb).trans hF
 have La:=hL.below b02 (Nat.le_refl _)
 have Ka:Keep (Lv w.heap.size g [lv,blkV fb]) w wA:=Keep.of b02 (fun k hk=>hk.1)
 have szA:=b02.size
 have hownL:=hL.own
 have CNo:=flNode_is w0 hEv g hg0 s hs n col hcol deep p fin (.bad q0 c0) wA (by omega) RSa (hB.next hg0 Ka (fun u hu=>by cases hu)) hoK
 go_upto_region 6 with (go_at_call 26;refine CNo.mono ?_;rintro e wP ⟨cs1,cP,rfl,x1,r1,v1,Rk,M1⟩;obtain ⟨kc0,kc1,kc2,kc3,kc4,kc5,kc6,kca,kcb,kcc,kcd,kce,kcf,kcg,kch,kci,kc7,kc8,rfl,hnear,-,-⟩:=M1.node.cellsK;have HM1:=Lib.hid M1;clear M1)
 obtain ⟨wR,hwR⟩:∃ wR,wR=wP.alloc (.cells #[.int .i64 kc0,.int .i64 kc1,.int .i64 kc2,.int .i64 kc3,.string kc4,.string kc5,.string kc6,.slice kca kcb kcc,.slice kcd kce kcf,.slice kcg kch kci,.bool kc7,.string kc8] 30):=⟨_,rfl⟩
 have zR:wR.heap.size=wP.heap.size+1:=by rw[hwR];simp
 have bR:Below wP.heap.size wP wR:=by rw[hwR];exact (Below.refl _ _).alloc (Nat.le_refl _) _
 have rR:wR.heap[wP.heap.size]?=some (.cells #[.int .i64 kc0,.int .i64 kc1,.int .i64 kc2,.int .i64 kc3,.string kc4,.string kc5,.string kc6,.slice kca kcb kcc,.slice kcd kce kcf,.slice kcg kch kci,.bool kc7,.string kc8] 30 (0,0)):=by rw[hwR];exact heap_alloc_new wP _
 rw[←hwR]
 clear hwR
 have M1:=HM1.out
 have szP:=M1.keep.size
 have hown1:=M1.st.has.own
 have hnew1:∀ k,v1.ownBlock=some k→wA.heap.size≤k:=fun k hk=>(by rcases M1.new k hk with h|⟨u,hu,_⟩;exact h;cases hu)
 have hR1:∀ k,Rk k→wA.heap.size≤k:=fun k hk=>(by rcases M1.own k hk with h|⟨u,hu,_⟩;exact h;cases hu)
 have hlt1:=M1.lt
 have hne1:=M1.ne
 have hgA:=RSa.cells.lt
 have RSr:RSb g s n r1 v1 wR:=M1.st.keep (fun k hlt _=>bR.block k hlt)
 have Fr:=(bR.block fb (by omega)).trans ((M1.keep.block fb ⟨by omega,hfg,fun u hu=>by cases hu⟩).trans Fa)
 have Lr:HasV 2 wR lv lead.length (comV lead):=La.keep (fun k hk hlt=>(bR.block k (by omega)).trans (M1.keep.block k ⟨hlt,fun e=>hlg (by rw[hk,e]),fun u hu=>by cases hu⟩))
 have Kr:Keep (Lv w.heap.size g [lv,blkV fb]) w wR:=(Ka.trans M1.keep (Lv.step Ka.size (fun u hu=>by cases hu))).trans (Q:=fun k=>k<w.heap.size) ⟨bR.os,bR.tape,bR.output,by omega,fun k hk=>bR.block k (by omega)⟩ (fun k hk=>hk.1)
 have Nr:IsN Rk wR x1 [.int .i64 kc0,.int .i64 kc1,.int .i64 kc2,.int .i64 kc3,.string kc4,.string kc5,.string kc6,.slice kca kcb kcc,.slice kcd kce kcf,.slice kcg kch kci,.bool kc7,.string kc8]:=IsN.frame (fun b hb=>⟨hb,bR.block b (M1.lt b hb)⟩) x1 _ M1.node
 have N1v:NewV w.heap.size [lv,blkV fb] v1:=fun k hk=>.inl (by have:=hnew1 k hk;omega)
 have hxl:x1.h.lead.length≤40000:=M1.few rfl
 have hres1:=M1.res
 have hwf1:=M1.wf
 obtain ⟨nb,hnb⟩:∃ nb,nb=wP.heap.size:=⟨_,rfl⟩
 rw[←hnb] at rR hlt1 hown1 szP zR ⊢
 have zR1:=Nat.le_of_eq zR
 have zR2:=Nat.le_of_eq zR.symm
 clear zR
 clear M1 HM1 CNo RSa Fa La Ka bR hnb b02 hF hL h
 obtain ⟨ec,hc0,hq0⟩:=hres1
 have hcb:(cP==0)=false:=by rw[beq_eq_false_iff_ne];exact hc0
 have hcb2:(cP != 0)=true:=by rw[bne,hcb];rfl
 have HEC:=Lib.hid ec
 clear ec hwf1
 obtain ⟨wC,hwC⟩:∃ x,x=wR:=⟨_,rfl⟩
 rw[←hwC] at RSr Fr rR Lr Kr Nr zR1 zR2 ⊢
 have hownC:∀ k,v1.ownBlock=some k→k<wC.heap.size:=RSr.has.own
 clear hwC
 have qnC:∀ j,wC.cell? ⟨nb,j,none⟩=(#[.int .i64 kc0,.int .i64 kc1,.int .i64 kc2,.int .i64 kc3,.string kc4,.string kc5,.string kc6,.slice kca kcb kcc,.slice kcd kce kcf,.slice kcg kch kci,.bool kc7,.string kc8]:Array Value)[j]?:=fun j=>cell_of_row wC _ j _ _ _ rR
 have qfF:∀ ob j,(wC.alloc ob).cell? ⟨fb,j,none⟩=(#[.int .i64 (p:Int),lv,.slice none 0 0]:Array Value)[j]?:=fun ob j=>cell_of_row _ _ j _ _ _ ((heap_alloc_old wC ob (show fb<wC.heap.size by omega)).trans Fr)
 have ffF:∀ ob j,(wC.alloc ob).frozen? ⟨fb,j,none⟩=false:=fun ob j=>frozen_of_row _ _ j _ _ ((heap_alloc_old wC ob (show fb<wC.heap.size by omega)).trans Fr)
 have HH:=Lib.hid (And.intro RSr (And.intro Lr (And.intro Kr Nr)))
 clear RSr Lr Kr Nr
 go_upto_region 9 with fail
 obtain ⟨RSr,Lr,Kr,Nr⟩:=HH.out
 obtain ⟨wF,hwF⟩:∃ wF,wF=(wC.alloc (.cells #[.int .i64 kc0,.int .i64 kc1,.int .i64 kc2,.int .i64 kc3,.string kc4,.string kc5,.string kc6,.slice kca kcb kcc,.slice kcd kce kcf,.slice kcg kch kci,.bool kc7,.string kc8] 30)).setCell ⟨fb,2,none⟩ (.slice (some ⟨wC.heap.size,0,none⟩) 1 1):=⟨_,rfl⟩
 have zF:wF.heap.size=wC.heap.size+1:=by rw[hwF];simp[World.setCell]
 have sF:∀ k,k<wC.heap.size→k≠fb→wF.heap[k]?=wC.heap[k]?:=fun k h1 h2=>by rw[hwF,heap_setCell_other _ _ _ _ h2];exact heap_alloc_old _ _ h1
 have oF:wF.os=wC.os∧wF.tape=wC.tape∧wF.output=wC.output:=by rw[hwF];exact ⟨rfl,rfl,rfl⟩
 have rF:wF.heap[wC.heap.size]?=some (.cells #[.int .i64 kc0,.int .i64 kc1,.int .i64 kc2,.int .i64 kc3,.string kc4,.string kc5,.string kc6,.slice kca kcb kcc,.slice kcd kce kcf,.slice kcg kch kci,.bool kc7,.string kc8] 30 (0,0)):=by rw[hwF,heap_setCell_other _ _ _ _ (show wC.heap.size≠fb by omega)];exact heap_alloc_new wC _
 have FF:wF.heap[fb]?=some (.cells #[.int .i64 (p:Int),lv,.slice (some ⟨wC.heap.size,0,none⟩) 1 1] 55 (0,0)):=by rw[hwF];exact heap_setCell_same _ _ 2 _ _ _ ((heap_alloc_old _ _ (show fb<wC.heap.size by omega)).trans Fr)
 rw[←hwF]
 have rnF:=(sF nb (by omega) (by omega)).trans rR
 clear hwF qnC qfF ffF
 have hvf:∀ k,v1.ownBlock=some k→k≠fb:=fun k hk=>by have:=hnew1 k hk;omega
 have RSF:RSb g s n r1 v1 wF:=RSr.keep (fun k hlt hk=>sF k hlt (by rcases hk with rfl|hk;exact fun e=>hfg e.symm;exact hvf k hk))
 have LF:HasV 2 wF lv lead.length (comV lead):=Lr.keep (fun k hk hlt=>sF k hlt (fun e=>hlf (by rw[hk,e])))
 have szKC:=Kr.size
 have KF:Keep (Lv w.heap.size g [lv,blkV fb]) w wF:=Kr.trans (Q:=fun k=>k<w.heap.size∧k≠fb) ⟨oF.1,oF.2.1,oF.2.2,by omega,fun k hk=>sF k (by have:=hk.1;omega) hk.2⟩ (fun k hk=>⟨hk.1,fun e=>hk.2.2 (blkV fb) (by simp) (by rw[e];rfl)⟩)
 have HT:=Lib.hid (And.intro RSF (And.intro KF N1v))
 clear RSF KF N1v RSr Kr HH LF Lr Nr
 go_wp2
 go_ret
 obtain ⟨RSF,KF,N1v⟩:=HT.out
 refine ⟨cP,r1,v1,rfl,RSF,N1v,KF,fun e=>hvf fb e rfl,?_⟩
 rw[hov]
 exact ⟨HEC.out,hc0,hq0⟩
set_option maxRecDepth 100000 in
set_option maxHeartbeats 3200000 in
theorem flItem_sbad (w0:World) (hEv:Env w0) (g:Nat) (hg0:w0.heap.size≤g) (s:ByteArray) (hs:s.size≤10000) (n:Int) (col:Nat→Nat→Rd (NT × Nat)→Prop) (hcol:CollC w0 g s n col) (deep:Nat) (hd:deep≤80) (p fin fb:Nat) (lv:Value) (lead:Coms) (o:Rd (Coms × List NT × Rst)) (w:World) (h:RS g s n ⟨[],false,fin,p⟩ (.slice none 0 0) w) (hF:w.heap[fb]?=some (.cells #[.int .i64 (p:Int),lv,.slice none 0 0] 55 (0,0))) (hL:HasV 2 w lv lead.length (comV lead)) (hlg:lv.ownBlock≠some g) (hlf:lv.ownBlock≠some fb) (hfg:fb≠g) (_hll:lead.length≤20000) (hB:Bs w0 w [lv,blkV fb]) (hq:queryB s p=false) (hsg:signB s p false=false) (xk:NT) (rK:Rst) (hoK:nodeP s n col deep p (.ok (xk,rK))) (q0:Nat) (c0:Int) (hoS:skipP s n rK (.bad q0 c0)) (hov:o=.bad q0 c0) :
  Calls Tryz.prog 15 #[.pointer (some ⟨g,0,none⟩),.pointer (some ⟨fb,0,none⟩),.int .i64 (deep:Int)] w fun e w'=>FldPost g s n fb (p:Int) w [lv,blkV fb] o e w':=by
 have hg:=h.cells.lt
 have hwf:=h.ok
 have htop:=hwf.top
 have hfb:fb<w.heap.size:=(Array.getElem?_eq_some_iff.1 hF).1
 have CQ:=flQuery_is false g s n p (fin:Int) (.slice none 0 0) false w h.cells (by omega) hq
 go_enter Tryz.func15,Tryz.ntmps15
 go_upto_region 5 with (first
  | (go_at_call 24;refine CQ.mono ?_;rintro e w1 ⟨rfl,j1,rfl⟩)
  | (go_at_call 25;refine (flColon_x false g s n p (fin:Int) (.slice none 0 0) false 0 0 0 0 ⟨#[]⟩ ⟨#[]⟩ ⟨#[]⟩ none 0 0 none 0 0 none 0 0 false ⟨#[]⟩ _ (h.drewN j1).cells (by omega) (by rw[show decide ((0:Int)=3∨(0:Int)=4∨(0:Int)=2∨(0:Int)=3)=false by decide];exact hsg)).mono ?_;rintro e w2 ⟨rfl,b2⟩))
 have b02:Below w.heap.size w w2:=(below_drewN (Below.refl _ _) j1).trans b2
 obtain ⟨wA,hwA⟩:∃ x,x=w2:=⟨_,rfl⟩
 rw[←hwA] at b02 ⊢
 clear hwA CQ
 have RSa:=h.below b02 (Nat.le_refl _)
 have Fa:=(b02.block fb hfb).trans hF
 have La:=hL.below b02 (Nat.le_refl _)
 have Ka:Keep (Lv w.heap.size g [lv,blkV fb]) w wA:=Keep.of b02 (fun k hk=>hk.1)
 have szA:=b02.size
 have hownL:=hL.own
 have CNo:=flNode_is w0 hEv g hg0 s hs n col hcol deep p fin (.ok (xk,rK)) wA (by omega) RSa (hB.next hg0 Ka (fun u hu=>by cases hu)) hoK
 go_upto_region 6 with (go_at_call 26;refine CNo.mono ?_;rintro e wP ⟨cs1,cP,rfl,x1,r1,v1,Rk,M1⟩;obtain ⟨kc0,kc1,kc2,kc3,kc4,kc5,kc6,kca,kcb,kcc,kcd,kce,kcf,kcg,kch,kci,kc7,kc8,rfl,hnear,-,-⟩:=M1.node.cellsK;have HM1:=Lib.hid M1;clear M1)
 obtain ⟨wR,hwR⟩:∃ wR,wR=wP.alloc (.cells #[.int .i64 kc0,.int .i64 kc1,.int .i64 kc2,.int .i64 kc3,.string kc4,.string kc5,.string kc6,.slice kca kcb kcc,.slice kcd kce kcf,.slice kcg kch kci,.bool kc7,.string kc8] 30):=⟨_,rfl⟩
 have zR:wR.heap.size=wP.heap.size+1:=by rw[hwR];simp
 have bR:Below wP.heap.size wP wR:=by rw[hwR];exact (Below.refl _ _).alloc (Nat.le_refl _) _
 have rR:wR.heap[wP.heap.size]?=some (.cells #[.int .i64 kc0,.int .i64 kc1,.int .i64 kc2,.int .i64 kc3,.string kc4,.string kc5,.string kc6,.slice kca kcb kcc,.slice kcd kce kcf,.slice kcg kch kci,.bool kc7,.string kc8] 30 (0,0)):=by rw[hwR];exact heap_alloc_new wP _
 rw[←hwR]
 clear hwR
 have M1:=HM1.out
 have szP:=M1.keep.size
 have hown1:=M1.st.has.own
 have hnew1:∀ k,v1.ownBlock=some k→wA.heap.size≤k:=fun k hk=>(by rcases M1.new k hk with h|⟨u,hu,_⟩;exact h;cases hu)
 have hR1:∀ k,Rk k→wA.heap.size≤k:=fun k hk=>(by rcases M1.own k hk with h|⟨u,hu,_⟩;exact h;cases hu)
 have hlt1:=M1.lt
 have hne1:=M1.ne
 have hgA:=RSa.cells.lt
 have RSr:RSb g s n r1 v1 wR:=M1.st.keep (fun k hlt _=>bR.block k hlt)
 have Fr:=(bR.block fb (by omega)).trans ((M1.keep.block fb ⟨by omega,hfg,fun u hu=>by cases hu⟩).trans Fa)
 have Lr:HasV 2 wR lv lead.length (comV lead):=La.keep (fun k hk hlt=>(bR.block k (by omega)).trans (M1.keep.block k ⟨hlt,fun e=>hlg (by rw[hk,e]),fun u hu=>by cases hu⟩))
 have Kr:Keep (Lv w.heap.size g [lv,blkV fb]) w wR:=(Ka.trans M1.keep (Lv.step Ka.size (fun u hu=>by cases hu))).trans (Q:=fun k=>k<w.heap.size) ⟨bR.os,bR.tape,bR.output,by omega,fun k hk=>bR.block k (by omega)⟩ (fun k hk=>hk.1)
 have Nr:IsN Rk wR x1 [.int .i64 kc0,.int .i64 kc1,.int .i64 kc2,.int .i64 kc3,.string kc4,.string kc5,.string kc6,.slice kca kcb kcc,.slice kcd kce kcf,.slice kcg kch kci,.bool kc7,.string kc8]:=IsN.frame (fun b hb=>⟨hb,bR.block b (M1.lt b hb)⟩) x1 _ M1.node
 have N1v:NewV w.heap.size [lv,blkV fb] v1:=fun k hk=>.inl (by have:=hnew1 k hk;omega)
 have hxl:x1.h.lead.length≤40000:=M1.few rfl
 have hres1:=M1.res
 have hwf1:=M1.wf
 obtain ⟨nb,hnb⟩:∃ nb,nb=wP.heap.size:=⟨_,rfl⟩
 rw[←hnb] at rR hlt1 hown1 szP zR ⊢
 have zR1:=Nat.le_of_eq zR
 have zR2:=Nat.le_of_eq zR.symm
 clear zR
 clear M1 HM1 CNo RSa Fa La Ka bR hnb b02 hF hL h
 obtain ⟨rfl,hee⟩:=hres1
 have ex:xk=x1:=congrArg Prod.fst hee
 have er:rK=r1:=congrArg Prod.snd hee
 clear hee
 subst ex
 subst er
 go_upto_region 8 with (go_at_call 19;refine (flSkip_of g s n rK v1 (.bad q0 c0) _ (RSr.rs (hwf1 _ rfl)) hs hoS).mono ?_;rintro e wC ⟨cS,vC,rS,rfl,RSc,nC,KC,resS⟩;obtain ⟨es,hcs,hqs⟩:=resS;have HEC:=Lib.hid es;clear es;have hcb2:(cS != 0)=true:=by rw[bne,Bool.not_eq_eq_eq_not,Bool.not_true,beq_eq_false_iff_ne];exact hcs)
 have szC:=KC.size
 have hownC:=RSc.has.own
 have hmC:∀ k,k<wR.heap.size→k≠g→v1.ownBlock≠some k→wC.heap[k]?=wR.heap[k]?:=fun k h1 h2 h3=>KC.block k ⟨h1,h2,fun u hu e=>by rw[List.mem_singleton] at hu;subst hu;exact h3 e⟩
 have hnC:∀ k,vC.ownBlock=some k→wA.heap.size≤k∧k≠nb∧(wR.heap.size≤k∨v1.ownBlock=some k):=fun k hk=>(by rcases nC k hk with h|⟨u,hu,h⟩;exact ⟨by omega,by omega,.inl h⟩;rw[List.mem_singleton] at hu;subst hu;exact ⟨hnew1 k h,by have:=hown1 k h;omega,.inr h⟩)
 have Fc:=(hmC fb (by omega) hfg (fun e=>by have:=hnew1 fb e;omega)).trans Fr
 have rc:=(hmC nb (by omega) (by omega) (fun e=>by have:=hown1 nb e;omega)).trans rR
 have Lc:HasV 2 wC lv lead.length (comV lead):=Lr.keep (fun k hk hlt=>hmC k hlt (fun e=>hlg (by rw[hk,e])) (fun e=>by have:=hnew1 k e;have:=hownL k hk;omega))
 have Kc:Keep (Lv w.heap.size g [lv,blkV fb]) w wC:=Kr.trans KC (Lv.step Kr.size (one_mem N1v))
 have NC:NewV w.heap.size [lv,blkV fb] vC:=nC.trans Kr.size (one_mem N1v)
 have szKr:=Kr.size
 have Nk:IsN Rk wC xk [.int .i64 kc0,.int .i64 kc1,.int .i64 kc2,.int .i64 kc3,.string kc4,.string kc5,.string kc6,.slice kca kcb kcc,.slice kcd kce kcf,.slice kcg kch kci,.bool kc7,.string kc8]:=IsN.frame (fun b hb=>⟨hb,hmC b (by have:=hlt1 b hb;omega) (hne1 b hb).1 (hne1 b hb).2⟩) xk _ Nr
 clear RSr Fr rR Lr Kr Nr KC nC hwf1
 have qnC:∀ j,wC.cell? ⟨nb,j,none⟩=(#[.int .i64 kc0,.int .i64 kc1,.int .i64 kc2,.int .i64 kc3,.string kc4,.string kc5,.string kc6,.slice kca kcb kcc,.slice kcd kce kcf,.slice kcg kch kci,.bool kc7,.string kc8]:Array Value)[j]?:=fun j=>cell_of_row wC _ j _ _ _ rc
 have qfF:∀ ob j,(wC.alloc ob).cell? ⟨fb,j,none⟩=(#[.int .i64 (p:Int),lv,.slice none 0 0]:Array Value)[j]?:=fun ob j=>cell_of_row _ _ j _ _ _ ((heap_alloc_old wC ob (show fb<wC.heap.size by omega)).trans Fc)
 have ffF:∀ ob j,(wC.alloc ob).frozen? ⟨fb,j,none⟩=false:=fun ob j=>frozen_of_row _ _ j _ _ ((heap_alloc_old wC ob (show fb<wC.heap.size by omega)).trans Fc)
 have HH:=Lib.hid (And.intro RSc (And.intro Lc (And.intro Kc Nk)))
 clear RSc Lc Kc Nk
 go_upto_region 9 with fail
 obtain ⟨RSc,Lc,Kc,Nk⟩:=HH.out
 obtain ⟨wF,hwF⟩:∃ wF,wF=(wC.alloc (.cells #[.int .i64 kc0,.int .i64 kc1,.int .i64 kc2,.int .i64 kc3,.string kc4,.string kc5,.string kc6,.slice kca kcb kcc,.slice kcd kce kcf,.slice kcg kch kci,.bool kc7,.string kc8] 30)).setCell ⟨fb,2,none⟩ (.slice (some ⟨wC.heap.size,0,none⟩) 1 1):=⟨_,rfl⟩
 have zF:wF.heap.size=wC.heap.size+1:=by rw[hwF];simp[World.setCell]
 have sF:∀ k,k<wC.heap.size→k≠fb→wF.heap[k]?=wC.heap[k]?:=fun k h1 h2=>by rw[hwF,heap_setCell_other _ _ _ _ h2];exact heap_alloc_old _ _ h1
 have oF:wF.os=wC.os∧wF.tape=wC.tape∧wF.output=wC.output:=by rw[hwF];exact ⟨rfl,rfl,rfl⟩
 have rF:wF.heap[wC.heap.size]?=some (.cells #[.int .i64 kc0,.int .i64 kc1,.int .i64 kc2,.int .i64 kc3,.string kc4,.string kc5,.string kc6,.slice kca kcb kcc,.slice kcd kce kcf,.slice kcg kch kci,.bool kc7,.string kc8] 30 (0,0)):=by rw[hwF,heap_setCell_other _ _ _ _ (show wC.heap.size≠fb by omega)];exact heap_alloc_new wC _
 have FF:wF.heap[fb]?=some (.cells #[.int .i64 (p:Int),lv,.slice (some ⟨wC.heap.size,0,none⟩) 1 1] 55 (0,0)):=by rw[hwF];exact heap_setCell_same _ _ 2 _ _ _ ((heap_alloc_old _ _ (show fb<wC.heap.size by omega)).trans Fc)
 rw[←hwF]
 have rnF:=(sF nb (by omega) (by omega)).trans rc
 clear hwF qnC qfF ffF
 have hvf:∀ k,vC.ownBlock=some k→k≠fb:=fun k hk=>by have:=(hnC k hk).1;omega
 have RSF:RSb g s n rS vC wF:=RSc.b.keep (fun k hlt hk=>sF k hlt (by rcases hk with rfl|hk;exact fun e=>hfg e.symm;exact hvf k hk))
 have LF:HasV 2 wF lv lead.length (comV lead):=Lc.keep (fun k hk hlt=>sF k hlt (fun e=>hlf (by rw[hk,e])))
 have szKC:=Kc.size
 have KF:Keep (Lv w.heap.size g [lv,blkV fb]) w wF:=Kc.trans (Q:=fun k=>k<w.heap.size∧k≠fb) ⟨oF.1,oF.2.1,oF.2.2,by omega,fun k hk=>sF k (by have:=hk.1;omega) hk.2⟩ (fun k hk=>⟨hk.1,fun e=>hk.2.2 (blkV fb) (by simp) (by rw[e];rfl)⟩)
 have HT:=Lib.hid (And.intro RSF (And.intro KF NC))
 clear RSF KF NC RSc Kc HH LF Lc Nk
 go_wp2
 go_ret
 obtain ⟨RSF,KF,NC⟩:=HT.out
 refine ⟨cS,rS,vC,rfl,RSF,NC,KF,fun e=>hvf fb e rfl,?_⟩
 rw[hov]
 exact ⟨HEC.out,hcs,hqs⟩
set_option maxRecDepth 100000 in
set_option maxHeartbeats 3200000 in
theorem flItem_one (w0:World) (hEv:Env w0) (g:Nat) (hg0:w0.heap.size≤g) (s:ByteArray) (hs:s.size≤10000) (n:Int) (col:Nat→Nat→Rd (NT × Nat)→Prop) (hcol:CollC w0 g s n col) (deep:Nat) (hd:deep≤80) (p fin fb:Nat) (lv:Value) (lead:Coms) (o:Rd (Coms × List NT × Rst)) (w:World) (h:RS g s n ⟨[],false,fin,p⟩ (.slice none 0 0) w) (hF:w.heap[fb]?=some (.cells #[.int .i64 (p:Int),lv,.slice none 0 0] 55 (0,0))) (hL:HasV 2 w lv lead.length (comV lead)) (hlg:lv.ownBlock≠some g) (hlf:lv.ownBlock≠some fb) (hfg:fb≠g) (_hll:lead.length≤20000) (hB:Bs w0 w [lv,blkV fb]) (hq:queryB s p=false) (hsg:signB s p false=false) (xk:NT) (rK:Rst) (hoK:nodeP s n col deep p (.ok (xk,rK))) (b1:Rst) (hoS:skipP s n rK (.ok b1)) (hsn:signB s b1.at' (nearN xk)=false) (hov:o=.ok (lead,[xk],b1)) :
  Calls Tryz.prog 15 #[.pointer (some ⟨g,0,none⟩),.pointer (some ⟨fb,0,none⟩),.int .i64 (deep:Int)] w fun e w'=>FldPost g s n fb (p:Int) w [lv,blkV fb] o e w':=by
 have hg:=h.cells.lt
 have hwf:=h.ok
 have htop:=hwf.top
 have hfb:fb<w.heap.size:=(Array.getElem?_eq_some_iff.1 hF).1
 have CQ:=flQuery_is false g s n p (fin:Int) (.slice none 0 0) false w h.cells (by omega) hq
 go_enter Tryz.func15,Tryz.ntmps15
 go_upto_region 5 with (first
  | (go_at_call 24;refine CQ.mono ?_;rintro e w1 ⟨rfl,j1,rfl⟩)
  | (go_at_call 25;refine (flColon_x false g s n p (fin:Int) (.slice none 0 0) false 0 0 0 0 ⟨#[]⟩ ⟨#[]⟩ ⟨#[]⟩ none 0 0 none 0 0 none 0 0 false ⟨#[]⟩ _ (h.drewN j1).cells (by omega) (by rw[show decide ((0:Int)=3∨(0:Int)=4∨(0:Int)=2∨(0:Int)=3)=false by decide];exact hsg)).mono ?_;rintro e w2 ⟨rfl,b2⟩))
 have b02:Below w.heap.size w w2:=(below_drewN (Below.refl _ _) j1).trans b2
 obtain ⟨wA,hwA⟩:∃ x,x=w2:=⟨_,rfl⟩
 rw[←hwA] at b02 ⊢
 clear hwA CQ
 have RSa:=h.below b02 (Nat.le_refl _)
 have Fa:=(b02.block fb hfb).trans hF
 have La:=hL.below b02 (Nat.le_refl _)
 have Ka:Keep (Lv w.heap.size g [lv,blkV fb]) w wA:=Keep.of b02 (fun k hk=>hk.1)
 have szA:=b02.size
 have hownL:=hL.own
 have CNo:=flNode_is w0 hEv g hg0 s hs n col hcol deep p fin (.ok (xk,rK)) wA (by omega) RSa (hB.next hg0 Ka (fun u hu=>by cases hu)) hoK
 go_upto_region 6 with (go_at_call 26;refine CNo.mono ?_;rintro e wP ⟨cs1,cP,rfl,x1,r1,v1,Rk,M1⟩;obtain ⟨kc0,kc1,kc2,kc3,kc4,kc5,kc6,kca,kcb,kcc,kcd,kce,kcf,kcg,kch,kci,kc7,kc8,rfl,hnear,-,-⟩:=M1.node.cellsK;have HM1:=Lib.hid M1;clear M1)
 obtain ⟨wR,hwR⟩:∃ wR,wR=wP.alloc (.cells #[.int .i64 kc0,.int .i64 kc1,.int .i64 kc2,.int .i64 kc3,.string kc4,.string kc5,.string kc6,.slice kca kcb kcc,.slice kcd kce kcf,.slice kcg kch kci,.bool kc7,.string kc8] 30):=⟨_,rfl⟩
 have zR:wR.heap.size=wP.heap.size+1:=by rw[hwR];simp
 have bR:Below wP.heap.size wP wR:=by rw[hwR];exact (Below.refl _ _).alloc (Nat.le_refl _) _
 have rR:wR.heap[wP.heap.size]?=some (.cells #[.int .i64 kc0,.int .i64 kc1,.int .i64 kc2,.int .i64 kc3,.string kc4,.string kc5,.string kc6,.slice kca kcb kcc,.slice kcd kce kcf,.slice kcg kch kci,.bool kc7,.string kc8] 30 (0,0)):=by rw[hwR];exact heap_alloc_new wP _
 rw[←hwR]
 clear hwR
 have M1:=HM1.out
 have szP:=M1.keep.size
 have hown1:=M1.st.has.own
 have hnew1:∀ k,v1.ownBlock=some k→wA.heap.size≤k:=fun k hk=>(by rcases M1.new k hk with h|⟨u,hu,_⟩;exact h;cases hu)
 have hR1:∀ k,Rk k→wA.heap.size≤k:=fun k hk=>(by rcases M1.own k hk with h|⟨u,hu,_⟩;exact h;cases hu)
 have hlt1:=M1.lt
 have hne1:=M1.ne
 have hgA:=RSa.cells.lt
 have RSr:RSb g s n r1 v1 wR:=M1.st.keep (fun k hlt _=>bR.block k hlt)
 have Fr:=(bR.block fb (by omega)).trans ((M1.keep.block fb ⟨by omega,hfg,fun u hu=>by cases hu⟩).trans Fa)
 have Lr:HasV 2 wR lv lead.length (comV lead):=La.keep (fun k hk hlt=>(bR.block k (by omega)).trans (M1.keep.block k ⟨hlt,fun e=>hlg (by rw[hk,e]),fun u hu=>by cases hu⟩))
 have Kr:Keep (Lv w.heap.size g [lv,blkV fb]) w wR:=(Ka.trans M1.keep (Lv.step Ka.size (fun u hu=>by cases hu))).trans (Q:=fun k=>k<w.heap.size) ⟨bR.os,bR.tape,bR.output,by omega,fun k hk=>bR.block k (by omega)⟩ (fun k hk=>hk.1)
 have Nr:IsN Rk wR x1 [.int .i64 kc0,.int .i64 kc1,.int .i64 kc2,.int .i64 kc3,.string kc4,.string kc5,.string kc6,.slice kca kcb kcc,.slice kcd kce kcf,.slice kcg kch kci,.bool kc7,.string kc8]:=IsN.frame (fun b hb=>⟨hb,bR.block b (M1.lt b hb)⟩) x1 _ M1.node
 have N1v:NewV w.heap.size [lv,blkV fb] v1:=fun k hk=>.inl (by have:=hnew1 k hk;omega)
 have hxl:x1.h.lead.length≤40000:=M1.few rfl
 have hres1:=M1.res
 have hwf1:=M1.wf
 obtain ⟨nb,hnb⟩:∃ nb,nb=wP.heap.size:=⟨_,rfl⟩
 rw[←hnb] at rR hlt1 hown1 szP zR ⊢
 have zR1:=Nat.le_of_eq zR
 have zR2:=Nat.le_of_eq zR.symm
 clear zR
 clear M1 HM1 CNo RSa Fa La Ka bR hnb b02 hF hL h
 obtain ⟨rfl,hee⟩:=hres1
 have ex:xk=x1:=congrArg Prod.fst hee
 have er:rK=r1:=congrArg Prod.snd hee
 clear hee
 subst ex
 subst er
 go_upto_region 8 with (go_at_call 19;refine (flSkip_of g s n rK v1 (.ok b1) _ (RSr.rs (hwf1 _ rfl)) hs hoS).mono ?_;rintro e wC ⟨cS,vC,rS,rfl,RSc,nC,KC,resS⟩;obtain ⟨rfl,rfl⟩:=resS)
 have szC:=KC.size
 have hownC:=RSc.has.own
 have hmC:∀ k,k<wR.heap.size→k≠g→v1.ownBlock≠some k→wC.heap[k]?=wR.heap[k]?:=fun k h1 h2 h3=>KC.block k ⟨h1,h2,fun u hu e=>by rw[List.mem_singleton] at hu;subst hu;exact h3 e⟩
 have hnC:∀ k,vC.ownBlock=some k→wA.heap.size≤k∧k≠nb∧(wR.heap.size≤k∨v1.ownBlock=some k):=fun k hk=>(by rcases nC k hk with h|⟨u,hu,h⟩;exact ⟨by omega,by omega,.inl h⟩;rw[List.mem_singleton] at hu;subst hu;exact ⟨hnew1 k h,by have:=hown1 k h;omega,.inr h⟩)
 have Fc:=(hmC fb (by omega) hfg (fun e=>by have:=hnew1 fb e;omega)).trans Fr
 have rc:=(hmC nb (by omega) (by omega) (fun e=>by have:=hown1 nb e;omega)).trans rR
 have Lc:HasV 2 wC lv lead.length (comV lead):=Lr.keep (fun k hk hlt=>hmC k hlt (fun e=>hlg (by rw[hk,e])) (fun e=>by have:=hnew1 k e;have:=hownL k hk;omega))
 have Kc:Keep (Lv w.heap.size g [lv,blkV fb]) w wC:=Kr.trans KC (Lv.step Kr.size (one_mem N1v))
 have NC:NewV w.heap.size [lv,blkV fb] vC:=nC.trans Kr.size (one_mem N1v)
 have szKr:=Kr.size
 have Nk:IsN Rk wC xk [.int .i64 kc0,.int .i64 kc1,.int .i64 kc2,.int .i64 kc3,.string kc4,.string kc5,.string kc6,.slice kca kcb kcc,.slice kcd kce kcf,.slice kcg kch kci,.bool kc7,.string kc8]:=IsN.frame (fun b hb=>⟨hb,hmC b (by have:=hlt1 b hb;omega) (hne1 b hb).1 (hne1 b hb).2⟩) xk _ Nr
 clear RSr Fr rR Lr Kr Nr KC nC hwf1
 have qnC:∀ j,wC.cell? ⟨nb,j,none⟩=(#[.int .i64 kc0,.int .i64 kc1,.int .i64 kc2,.int .i64 kc3,.string kc4,.string kc5,.string kc6,.slice kca kcb kcc,.slice kcd kce kcf,.slice kcg kch kci,.bool kc7,.string kc8]:Array Value)[j]?:=fun j=>cell_of_row wC _ j _ _ _ rc
 have qfF:∀ ob j,(wC.alloc ob).cell? ⟨fb,j,none⟩=(#[.int .i64 (p:Int),lv,.slice none 0 0]:Array Value)[j]?:=fun ob j=>cell_of_row _ _ j _ _ _ ((heap_alloc_old wC ob (show fb<wC.heap.size by omega)).trans Fc)
 have ffF:∀ ob j,(wC.alloc ob).frozen? ⟨fb,j,none⟩=false:=fun ob j=>frozen_of_row _ _ j _ _ ((heap_alloc_old wC ob (show fb<wC.heap.size by omega)).trans Fc)
 have HH:=Lib.hid (And.intro RSc (And.intro Lc (And.intro Kc Nk)))
 clear RSc Lc Kc Nk
 go_upto_region 9 with fail
 obtain ⟨RSc,Lc,Kc,Nk⟩:=HH.out
 obtain ⟨wF,hwF⟩:∃ wF,wF=(wC.alloc (.cells #[.int .i64 kc0,.int .i64 kc1,.int .i64 kc2,.int .i64 kc3,.string kc4,.string kc5,.string kc6,.slice kca kcb kcc,.slice kcd kce kcf,.slice kcg kch kci,.bool kc7,.string kc8] 30)).setCell ⟨fb,2,none⟩ (.slice (some ⟨wC.heap.size,0,none⟩) 1 1):=⟨_,rfl⟩
 have zF:wF.heap.size=wC.heap.size+1:=by rw[hwF];simp[World.setCell]
 have sF:∀ k,k<wC.heap.size→k≠fb→wF.heap[k]?=wC.heap[k]?:=fun k h1 h2=>by rw[hwF,heap_setCell_other _ _ _ _ h2];exact heap_alloc_old _ _ h1
 have oF:wF.os=wC.os∧wF.tape=wC.tape∧wF.output=wC.output:=by rw[hwF];exact ⟨rfl,rfl,rfl⟩
 have rF:wF.heap[wC.heap.size]?=some (.cells #[.int .i64 kc0,.int .i64 kc1,.int .i64 kc2,.int .i64 kc3,.string kc4,.string kc5,.string kc6,.slice kca kcb kcc,.slice kcd kce kcf,.slice kcg kch kci,.bool kc7,.string kc8] 30 (0,0)):=by rw[hwF,heap_setCell_other _ _ _ _ (show wC.heap.size≠fb by omega)];exact heap_alloc_new wC _
 have FF:wF.heap[fb]?=some (.cells #[.int .i64 (p:Int),lv,.slice (some ⟨wC.heap.size,0,none⟩) 1 1] 55 (0,0)):=by rw[hwF];exact heap_setCell_same _ _ 2 _ _ _ ((heap_alloc_old _ _ (show fb<wC.heap.size by omega)).trans Fc)
 rw[←hwF]
 have rnF:=(sF nb (by omega) (by omega)).trans rc
 clear hwF qnC qfF ffF
 have hvf:∀ k,vC.ownBlock=some k→k≠fb:=fun k hk=>by have:=(hnC k hk).1;omega
 have RSF:RSb g s n rS vC wF:=RSc.b.keep (fun k hlt hk=>sF k hlt (by rcases hk with rfl|hk;exact fun e=>hfg e.symm;exact hvf k hk))
 have LF:HasV 2 wF lv lead.length (comV lead):=Lc.keep (fun k hk hlt=>sF k hlt (fun e=>hlf (by rw[hk,e])))
 have szKC:=Kc.size
 have KF:Keep (Lv w.heap.size g [lv,blkV fb]) w wF:=Kc.trans (Q:=fun k=>k<w.heap.size∧k≠fb) ⟨oF.1,oF.2.1,oF.2.2,by omega,fun k hk=>sF k (by have:=hk.1;omega) hk.2⟩ (fun k hk=>⟨hk.1,fun e=>hk.2.2 (blkV fb) (by simp) (by rw[e];rfl)⟩)
 have wfS:=RSc.ok
 have htS:=wfS.top
 have CLA:=flColon_x false g s n rS.at' (rS.fin:Int) vC rS.same kc0 kc1 kc2 kc3 kc4 kc5 kc6 kca kcb kcc kcd kce kcf kcg kch kci kc7 kc8 wF RSF.cells (by omega) (by rw[←hnear];exact hsn)
 have qnF:∀ j,wF.cell? ⟨nb,j,none⟩=(#[.int .i64 kc0,.int .i64 kc1,.int .i64 kc2,.int .i64 kc3,.string kc4,.string kc5,.string kc6,.slice kca kcb kcc,.slice kcd kce kcf,.slice kcg kch kci,.bool kc7,.string kc8]:Array Value)[j]?:=fun j=>cell_of_row wF _ j _ _ _ rnF
 have HT:=Lib.hid (And.intro RSF (And.intro KF (And.intro LF (And.intro Nk Lc))))
 clear RSF KF LF Nk Lc Kc HH RSc
 go_wp2_with fail
 refine CLA.mono ?_
 rintro e wG ⟨rfl,bG⟩
 clear CLA qnF
 go_wp2
 go_ret
 obtain ⟨RSF,KF,LF,Nk,Lc⟩:=HT.out
 have szG:=bG.size
 have hownS:=RSF.has.own
 have far:∀ k,k<wC.heap.size→k≠fb→wG.heap[k]?=wC.heap[k]?:=fun k h1 h2=>(bG.block k (by omega)).trans (sF k h1 h2)
 refine ⟨0,rS,vC,rfl,RSF.keep (fun k hlt _=>bG.block k hlt),NC,KF.trans (Keep.of bG (fun k hk=>hk)) (fun k hk=>by have:=hk.1;omega),fun e=>hvf fb e rfl,?_⟩
 rw[hov]
 refine ⟨rfl,rfl,wfS,(fun z hz=>by simp at hz;subst hz;exact hxl),lv,wC.heap.size,1,1,#[.int .i64 kc0,.int .i64 kc1,.int .i64 kc2,.int .i64 kc3,.string kc4,.string kc5,.string kc6,.slice kca kcb kcc,.slice kcd kce kcf,.slice kcg kch kci,.bool kc7,.string kc8],Rk,?_⟩
 refine ⟨(bG.block fb (by omega)).trans FF,LF.below bG (Nat.le_refl _),(bG.block _ (by omega)).trans rF,⟨rfl,Nat.le_refl _,by decide,Nat.le_refl _⟩,IsKL.one (IsN.frame (fun b hb=>⟨hb,far b (by have:=hlt1 b hb;omega) (by have:=hR1 b hb;omega)⟩) xk _ Nk),⟨by omega,fun e=>by have:=hownC _ e;omega,fun e=>by have:=hownL _ e;omega⟩,⟨NewV.self (by simp),hlg,hlf,fun k hk e=>by have:=(hnC k e).1;have:=hownL k hk;omega⟩,fun k hk=>?_⟩
 have h1:=hR1 k hk
 have h2:=hlt1 k hk
 refine ⟨by omega,by omega,by omega,fun e=>?_,fun e=>by have:=hownL k e;omega⟩
 rcases (hnC k e).2.2 with h|h
 ·omega
 ·exact (hne1 k hk).2 h
set_option maxRecDepth 100000 in
set_option maxHeartbeats 3200000 in
theorem flItem_row (w0:World) (hEv:Env w0) (g:Nat) (hg0:w0.heap.size≤g) (s:ByteArray) (hs:s.size≤10000) (n:Int) (col:Nat→Nat→Rd (NT × Nat)→Prop) (hcol:CollC w0 g s n col) (deep:Nat) (hd:deep≤80) (p fin fb:Nat) (lv:Value) (lead:Coms) (o:Rd (Coms × List NT × Rst)) (w:World) (h:RS g s n ⟨[],false,fin,p⟩ (.slice none 0 0) w) (hF:w.heap[fb]?=some (.cells #[.int .i64 (p:Int),lv,.slice none 0 0] 55 (0,0))) (hL:HasV 2 w lv lead.length (comV lead)) (hlg:lv.ownBlock≠some g) (hlf:lv.ownBlock≠some fb) (hfg:fb≠g) (_hll:lead.length≤20000) (hB:Bs w0 w [lv,blkV fb]) (hq:queryB s p=false) (hsg:signB s p false=false) (xk:NT) (rK:Rst) (hoK:nodeP s n col deep p (.ok (xk,rK))) (b1:Rst) (hoS:skipP s n rK (.ok b1)) (hsn:signB s b1.at' (nearN xk)=true) (hpr:p≤b1.at') (hrow:sameRow s p b1.at'=false) (hov:o=.bad b1.at' 5) :
  Calls Tryz.prog 15 #[.pointer (some ⟨g,0,none⟩),.pointer (some ⟨fb,0,none⟩),.int .i64 (deep:Int)] w fun e w'=>FldPost g s n fb (p:Int) w [lv,blkV fb] o e w':=by
 have hg:=h.cells.lt
 have hwf:=h.ok
 have htop:=hwf.top
 have hfb:fb<w.heap.size:=(Array.getElem?_eq_some_iff.1 hF).1
 have CQ:=flQuery_is false g s n p (fin:Int) (.slice none 0 0) false w h.cells (by omega) hq
 go_enter Tryz.func15,Tryz.ntmps15
 go_upto_region 5 with (first
  | (go_at_call 24;refine CQ.mono ?_;rintro e w1 ⟨rfl,j1,rfl⟩)
  | (go_at_call 25;refine (flColon_x false g s n p (fin:Int) (.slice none 0 0) false 0 0 0 0 ⟨#[]⟩ ⟨#[]⟩ ⟨#[]⟩ none 0 0 none 0 0 none 0 0 false ⟨#[]⟩ _ (h.drewN j1).cells (by omega) (by rw[show decide ((0:Int)=3∨(0:Int)=4∨(0:Int)=2∨(0:Int)=3)=false by decide];exact hsg)).mono ?_;rintro e w2 ⟨rfl,b2⟩))
 have b02:Below w.heap.size w w2:=(below_drewN (Below.refl _ _) j1).trans b2
 obtain ⟨wA,hwA⟩:∃ x,x=w2:=⟨_,rfl⟩
 rw[←hwA] at b02 ⊢
 clear hwA CQ
 have RSa:=h.below b02 (Nat.le_refl _)
 have Fa:=(b02.block fb hfb).trans hF
 have La:=hL.below b02 (Nat.le_refl _)
 have Ka:Keep (Lv w.heap.size g [lv,blkV fb]) w wA:=Keep.of b02 (fun k hk=>hk.1)
 have szA:=b02.size
 have hownL:=hL.own
 have CNo:=flNode_is w0 hEv g hg0 s hs n col hcol deep p fin (.ok (xk,rK)) wA (by omega) RSa (hB.next hg0 Ka (fun u hu=>by cases hu)) hoK
 go_upto_region 6 with (go_at_call 26;refine CNo.mono ?_;rintro e wP ⟨cs1,cP,rfl,x1,r1,v1,Rk,M1⟩;obtain ⟨kc0,kc1,kc2,kc3,kc4,kc5,kc6,kca,kcb,kcc,kcd,kce,kcf,kcg,kch,kci,kc7,kc8,rfl,hnear,-,-⟩:=M1.node.cellsK;have HM1:=Lib.hid M1;clear M1)
 obtain ⟨wR,hwR⟩:∃ wR,wR=wP.alloc (.cells #[.int .i64 kc0,.int .i64 kc1,.int .i64 kc2,.int .i64 kc3,.string kc4,.string kc5,.string kc6,.slice kca kcb kcc,.slice kcd kce kcf,.slice kcg kch kci,.bool kc7,.string kc8] 30):=⟨_,rfl⟩
 have zR:wR.heap.size=wP.heap.size+1:=by rw[hwR];simp
 have bR:Below wP.heap.size wP wR:=by rw[hwR];exact (Below.refl _ _).alloc (Nat.le_refl _) _
 have rR:wR.heap[wP.heap.size]?=some (.cells #[.int .i64 kc0,.int .i64 kc1,.int .i64 kc2,.int .i64 kc3,.string kc4,.string kc5,.string kc6,.slice kca kcb kcc,.slice kcd kce kcf,.slice kcg kch kci,.bool kc7,.string kc8] 30 (0,0)):=by rw[hwR];exact heap_alloc_new wP _
 rw[←hwR]
 clear hwR
 have M1:=HM1.out
 have szP:=M1.keep.size
 have hown1:=M1.st.has.own
 have hnew1:∀ k,v1.ownBlock=some k→wA.heap.size≤k:=fun k hk=>(by rcases M1.new k hk with h|⟨u,hu,_⟩;exact h;cases hu)
 have hR1:∀ k,Rk k→wA.heap.size≤k:=fun k hk=>(by rcases M1.own k hk with h|⟨u,hu,_⟩;exact h;cases hu)
 have hlt1:=M1.lt
 have hne1:=M1.ne
 have hgA:=RSa.cells.lt
 have RSr:RSb g s n r1 v1 wR:=M1.st.keep (fun k hlt _=>bR.block k hlt)
 have Fr:=(bR.block fb (by omega)).trans ((M1.keep.block fb ⟨by omega,hfg,fun u hu=>by cases hu⟩).trans Fa)
 have Lr:HasV 2 wR lv lead.length (comV lead):=La.keep (fun k hk hlt=>(bR.block k (by omega)).trans (M1.keep.block k ⟨hlt,fun e=>hlg (by rw[hk,e]),fun u hu=>by cases hu⟩))
 have Kr:Keep (Lv w.heap.size g [lv,blkV fb]) w wR:=(Ka.trans M1.keep (Lv.step Ka.size (fun u hu=>by cases hu))).trans (Q:=fun k=>k<w.heap.size) ⟨bR.os,bR.tape,bR.output,by omega,fun k hk=>bR.block k (by omega)⟩ (fun k hk=>hk.1)
 have Nr:IsN Rk wR x1 [.int .i64 kc0,.int .i64 kc1,.int .i64 kc2,.int .i64 kc3,.string kc4,.string kc5,.string kc6,.slice kca kcb kcc,.slice kcd kce kcf,.slice kcg kch kci,.bool kc7,.string kc8]:=IsN.frame (fun b hb=>⟨hb,bR.block b (M1.lt b hb)⟩) x1 _ M1.node
 have N1v:NewV w.heap.size [lv,blkV fb] v1:=fun k hk=>.inl (by have:=hnew1 k hk;omega)
 have hxl:x1.h.lead.length≤40000:=M1.few rfl
 have hres1:=M1.res
 have hwf1:=M1.wf
 obtain ⟨nb,hnb⟩:∃ nb,nb=wP.heap.size:=⟨_,rfl⟩
 rw[←hnb] at rR hlt1 hown1 szP zR ⊢
 have zR1:=Nat.le_of_eq zR
 have zR2:=Nat.le_of_eq zR.symm
 clear zR
 clear M1 HM1 CNo RSa Fa La Ka bR hnb b02 hF hL h
 obtain ⟨rfl,hee⟩:=hres1
 have ex:xk=x1:=congrArg Prod.fst hee
 have er:rK=r1:=congrArg Prod.snd hee
 clear hee
 subst ex
 subst er
 go_upto_region 8 with (go_at_call 19;refine (flSkip_of g s n rK v1 (.ok b1) _ (RSr.rs (hwf1 _ rfl)) hs hoS).mono ?_;rintro e wC ⟨cS,vC,rS,rfl,RSc,nC,KC,resS⟩;obtain ⟨rfl,rfl⟩:=resS)
 have szC:=KC.size
 have hownC:=RSc.has.own
 have hmC:∀ k,k<wR.heap.size→k≠g→v1.ownBlock≠some k→wC.heap[k]?=wR.heap[k]?:=fun k h1 h2 h3=>KC.block k ⟨h1,h2,fun u hu e=>by rw[List.mem_singleton] at hu;subst hu;exact h3 e⟩
 have hnC:∀ k,vC.ownBlock=some k→wA.heap.size≤k∧k≠nb∧(wR.heap.size≤k∨v1.ownBlock=some k):=fun k hk=>(by rcases nC k hk with h|⟨u,hu,h⟩;exact ⟨by omega,by omega,.inl h⟩;rw[List.mem_singleton] at hu;subst hu;exact ⟨hnew1 k h,by have:=hown1 k h;omega,.inr h⟩)
 have Fc:=(hmC fb (by omega) hfg (fun e=>by have:=hnew1 fb e;omega)).trans Fr
 have rc:=(hmC nb (by omega) (by omega) (fun e=>by have:=hown1 nb e;omega)).trans rR
 have Lc:HasV 2 wC lv lead.length (comV lead):=Lr.keep (fun k hk hlt=>hmC k hlt (fun e=>hlg (by rw[hk,e])) (fun e=>by have:=hnew1 k e;have:=hownL k hk;omega))
 have Kc:Keep (Lv w.heap.size g [lv,blkV fb]) w wC:=Kr.trans KC (Lv.step Kr.size (one_mem N1v))
 have NC:NewV w.heap.size [lv,blkV fb] vC:=nC.trans Kr.size (one_mem N1v)
 have szKr:=Kr.size
 have Nk:IsN Rk wC xk [.int .i64 kc0,.int .i64 kc1,.int .i64 kc2,.int .i64 kc3,.string kc4,.string kc5,.string kc6,.slice kca kcb kcc,.slice kcd kce kcf,.slice kcg kch kci,.bool kc7,.string kc8]:=IsN.frame (fun b hb=>⟨hb,hmC b (by have:=hlt1 b hb;omega) (hne1 b hb).1 (hne1 b hb).2⟩) xk _ Nr
 clear RSr Fr rR Lr Kr Nr KC nC hwf1
 have qnC:∀ j,wC.cell? ⟨nb,j,none⟩=(#[.int .i64 kc0,.int .i64 kc1,.int .i64 kc2,.int .i64 kc3,.string kc4,.string kc5,.string kc6,.slice kca kcb kcc,.slice kcd kce kcf,.slice kcg kch kci,.bool kc7,.string kc8]:Array Value)[j]?:=fun j=>cell_of_row wC _ j _ _ _ rc
 have qfF:∀ ob j,(wC.alloc ob).cell? ⟨fb,j,none⟩=(#[.int .i64 (p:Int),lv,.slice none 0 0]:Array Value)[j]?:=fun ob j=>cell_of_row _ _ j _ _ _ ((heap_alloc_old wC ob (show fb<wC.heap.size by omega)).trans Fc)
 have ffF:∀ ob j,(wC.alloc ob).frozen? ⟨fb,j,none⟩=false:=fun ob j=>frozen_of_row _ _ j _ _ ((heap_alloc_old wC ob (show fb<wC.heap.size by omega)).trans Fc)
 have HH:=Lib.hid (And.intro RSc (And.intro Lc (And.intro Kc Nk)))
 clear RSc Lc Kc Nk
 go_upto_region 9 with fail
 obtain ⟨RSc,Lc,Kc,Nk⟩:=HH.out
 obtain ⟨wF,hwF⟩:∃ wF,wF=(wC.alloc (.cells #[.int .i64 kc0,.int .i64 kc1,.int .i64 kc2,.int .i64 kc3,.string kc4,.string kc5,.string kc6,.slice kca kcb kcc,.slice kcd kce kcf,.slice kcg kch kci,.bool kc7,.string kc8] 30)).setCell ⟨fb,2,none⟩ (.slice (some ⟨wC.heap.size,0,none⟩) 1 1):=⟨_,rfl⟩
 have zF:wF.heap.size=wC.heap.size+1:=by rw[hwF];simp[World.setCell]
 have sF:∀ k,k<wC.heap.size→k≠fb→wF.heap[k]?=wC.heap[k]?:=fun k h1 h2=>by rw[hwF,heap_setCell_other _ _ _ _ h2];exact heap_alloc_old _ _ h1
 have oF:wF.os=wC.os∧wF.tape=wC.tape∧wF.output=wC.output:=by rw[hwF];exact ⟨rfl,rfl,rfl⟩
 have rF:wF.heap[wC.heap.size]?=some (.cells #[.int .i64 kc0,.int .i64 kc1,.int .i64 kc2,.int .i64 kc3,.string kc4,.string kc5,.string kc6,.slice kca kcb kcc,.slice kcd kce kcf,.slice kcg kch kci,.bool kc7,.string kc8] 30 (0,0)):=by rw[hwF,heap_setCell_other _ _ _ _ (show wC.heap.size≠fb by omega)];exact heap_alloc_new wC _
 have FF:wF.heap[fb]?=some (.cells #[.int .i64 (p:Int),lv,.slice (some ⟨wC.heap.size,0,none⟩) 1 1] 55 (0,0)):=by rw[hwF];exact heap_setCell_same _ _ 2 _ _ _ ((heap_alloc_old _ _ (show fb<wC.heap.size by omega)).trans Fc)
 rw[←hwF]
 have rnF:=(sF nb (by omega) (by omega)).trans rc
 clear hwF qnC qfF ffF
 have hvf:∀ k,vC.ownBlock=some k→k≠fb:=fun k hk=>by have:=(hnC k hk).1;omega
 have RSF:RSb g s n rS vC wF:=RSc.b.keep (fun k hlt hk=>sF k hlt (by rcases hk with rfl|hk;exact fun e=>hfg e.symm;exact hvf k hk))
 have LF:HasV 2 wF lv lead.length (comV lead):=Lc.keep (fun k hk hlt=>sF k hlt (fun e=>hlf (by rw[hk,e])))
 have szKC:=Kc.size
 have KF:Keep (Lv w.heap.size g [lv,blkV fb]) w wF:=Kc.trans (Q:=fun k=>k<w.heap.size∧k≠fb) ⟨oF.1,oF.2.1,oF.2.2,by omega,fun k hk=>sF k (by have:=hk.1;omega) hk.2⟩ (fun k hk=>⟨hk.1,fun e=>hk.2.2 (blkV fb) (by simp) (by rw[e];rfl)⟩)
 have wfS:=RSc.ok
 have htS:=wfS.top
 have CLA:=flColon_x true g s n rS.at' (rS.fin:Int) vC rS.same kc0 kc1 kc2 kc3 kc4 kc5 kc6 kca kcb kcc kcd kce kcf kcg kch kci kc7 kc8 wF RSF.cells (by omega) (by rw[←hnear];exact hsn)
 have qnF:∀ j,wF.cell? ⟨nb,j,none⟩=(#[.int .i64 kc0,.int .i64 kc1,.int .i64 kc2,.int .i64 kc3,.string kc4,.string kc5,.string kc6,.slice kca kcb kcc,.slice kcd kce kcf,.slice kcg kch kci,.bool kc7,.string kc8]:Array Value)[j]?:=fun j=>cell_of_row wF _ j _ _ _ rnF
 have HT:=Lib.hid (And.intro RSF (And.intro KF (And.intro LF (And.intro Nk Lc))))
 clear RSF KF LF Nk Lc Kc HH RSc
 go_wp2_with fail
 refine CLA.mono ?_
 rintro e wG ⟨rfl,bG⟩
 clear CLA qnF
 have AG:FlAt g s n (rS.at':Int) (rS.fin:Int) vC rS.same wG:=HT.out.1.cells.below bG HT.out.1.cells.lt
 have FG:=(bG.block fb (by omega)).trans FF
 have szG:=bG.size
 have hS0:wG.cell? ⟨g,0,none⟩=some (.string s)∧wG.cell? ⟨g,2,none⟩=some (.int .i64 (rS.at':Int))∧wG.cell? ⟨fb,0,none⟩=some (.int .i64 (p:Int)):=⟨AG.cell 0,AG.cell 2,cell_of_row wG _ 0 _ _ _ FG⟩
 have CC:∀ W,Calls Tryz.prog 27 #[.string (s.extract p rS.at'),.string ⟨#[10]⟩] W fun e w'=>e=.returned (.bool true)∧w'=W:=fun W=>by
  have h1:=Tryz.strings_Contains_one (s.extract p rS.at') 10 W
  rw[lf_in hpr htS,hrow] at h1
  exact h1
 have i1:(p:Int)≤(rS.at':Int):=by omega
 have i2:(rS.at':Int)≤(s.size:Int):=by omega
 go_wp2_with fail
 refine wp_region_noPanic ?_
 refine wp_region_held_drew (S:=fun w'=>(w'.cell? ⟨g,0,none⟩=some (.string s)∧w'.cell? ⟨g,2,none⟩=some (.int .i64 (rS.at':Int))∧w'.cell? ⟨fb,0,none⟩=some (.int .i64 (p:Int)))) (by kernel_rfl) ?_ (fun hHeld=>?_)
 ·exact hS0
 refine wpAnyH_take (i:=0) (v:=?_) rfl (by kernel_rfl) (by kernel_rfl) (by kernel_rfl) (fun _ _ _ h=>h) (Or.inl ⟨by rfl,?_⟩) (by assumption) ?_
 rotate_left
 ·(intro w hSw;(try dsimp only at hSw);go_simp <;> with_reducible rfl)
 simp only[List.getElem_toArray,List.getElem_cons_zero,Act.put,List.setIfInBounds_toArray,List.set_cons_zero,List.set_cons_succ]
 refine wpAnyH_take (i:=1) (v:=?_) rfl (by kernel_rfl) (by kernel_rfl) (by kernel_rfl) (fun _ _ _ h=>h) (Or.inl ⟨by rfl,?_⟩) (by assumption) ?_
 rotate_left
 ·(intro w hSw;(try dsimp only at hSw);go_simp <;> with_reducible rfl)
 simp only[List.getElem_toArray,List.getElem_cons_zero,List.getElem_cons_succ,Act.put,List.setIfInBounds_toArray,List.set_cons_zero,List.set_cons_succ]
 refine wpAnyH_take (i:=2) (v:=?_) rfl (by kernel_rfl) (by kernel_rfl) (by kernel_rfl) (fun _ _ _ h=>h) (Or.inl ⟨by rfl,?_⟩) (by assumption) ?_
 rotate_left
 ·(intro w hSw;(try dsimp only at hSw);go_simp <;> with_reducible rfl)
 simp only[List.getElem_toArray,List.getElem_cons_zero,List.getElem_cons_succ,Act.put,List.setIfInBounds_toArray,List.set_cons_zero,List.set_cons_succ]
 refine wpAnyH_take (i:=3) (v:=?_) rfl (by kernel_rfl) (by kernel_rfl) (by kernel_rfl) (fun _ _ _ h=>h) (Or.inl ⟨by rfl,?_⟩) (by assumption) ?_
 rotate_left
 ·(intro w hSw;(try dsimp only at hSw);go_simp <;> with_reducible rfl)
 simp only[List.getElem_toArray,List.getElem_cons_zero,List.getElem_cons_succ,Act.put,List.setIfInBounds_toArray,List.set_cons_zero,List.set_cons_succ]
 refine wpAnyH_take (i:=4) (v:=?_) rfl (by kernel_rfl) (by kernel_rfl) (by kernel_rfl) (fun _ _ _ h=>h) (Or.inl ⟨by rfl,?_⟩) (by assumption) ?_
 rotate_left
 ·(intro w hSw;(try dsimp only at hSw);go_simp <;> with_reducible rfl)
 simp only[List.getElem_toArray,List.getElem_cons_zero,List.getElem_cons_succ,Act.put,List.setIfInBounds_toArray,List.set_cons_zero,List.set_cons_succ]
 refine wpAnyH_take (i:=5) (v:=?_) rfl (by kernel_rfl) (by kernel_rfl) (by kernel_rfl) (fun _ _ _ h=>h) (Or.inl ⟨by rfl,?_⟩) (by assumption) ?_
 rotate_left
 ·(intro w hSw;(try dsimp only at hSw);go_simp <;> with_reducible rfl)
 simp only[List.getElem_toArray,List.getElem_cons_zero,List.getElem_cons_succ,Act.put,List.setIfInBounds_toArray,List.set_cons_zero,List.set_cons_succ]
 refine wpAnyH_take (i:=6) (v:=?_) rfl (by kernel_rfl) (by kernel_rfl) (by kernel_rfl) (fun _ _ _ h=>h) (Or.inl ⟨by rfl,?_⟩) (by assumption) ?_
 rotate_left
 ·(intro w hSw;(try dsimp only at hSw);go_simp <;> with_reducible rfl)
 simp only[List.getElem_toArray,List.getElem_cons_zero,List.getElem_cons_succ,Act.put,List.setIfInBounds_toArray,List.set_cons_zero,List.set_cons_succ]
 refine wpAnyH_take (i:=7) (v:=?_) rfl (by kernel_rfl) (by kernel_rfl) (by kernel_rfl) (fun _ _ _ h=>h) (Or.inl ⟨by rfl,?_⟩) (by assumption) ?_
 rotate_left
 ·(intro w hSw;(try dsimp only at hSw);go_simp <;> with_reducible rfl)
 simp only[List.getElem_toArray,List.getElem_cons_zero,List.getElem_cons_succ,Act.put,List.setIfInBounds_toArray,List.set_cons_zero,List.set_cons_succ]
 refine wpAnyH_take (i:=8) (v:=?_) rfl (by kernel_rfl) (by kernel_rfl) (by kernel_rfl) (fun _ _ _ h=>h) (Or.inl ⟨by rfl,?_⟩) (by assumption) ?_
 rotate_left
 ·(intro w hSw;(try dsimp only at hSw);go_simp <;> with_reducible rfl)
 simp only[List.getElem_toArray,List.getElem_cons_zero,List.getElem_cons_succ,Act.put,List.setIfInBounds_toArray,List.set_cons_zero,List.set_cons_succ]
 refine wpAnyH_take (i:=9) (v:=?_) rfl (by kernel_rfl) (by kernel_rfl) (by kernel_rfl) (fun _ _ _ h=>h) (Or.inl ⟨by rfl,?_⟩) (by assumption) ?_
 rotate_left
 ·(intro w hSw;(try dsimp only at hSw);go_simp <;> with_reducible rfl)
 simp only[List.getElem_toArray,List.getElem_cons_zero,List.getElem_cons_succ,Act.put,List.setIfInBounds_toArray,List.set_cons_zero,List.set_cons_succ]
 refine wpAnyH_take (i:=10) (v:=?_) rfl (by kernel_rfl) (by kernel_rfl) (by kernel_rfl) (fun _ _ _ h=>h) (Or.inl ⟨by rfl,?_⟩) (by assumption) ?_
 rotate_left
 ·(intro w hSw;(try dsimp only at hSw);go_simp <;> with_reducible rfl)
 simp only[List.getElem_toArray,List.getElem_cons_zero,List.getElem_cons_succ,Act.put,List.setIfInBounds_toArray,List.set_cons_zero,List.set_cons_succ]
 refine wpAnyH_take (i:=11) (v:=?_) rfl (by kernel_rfl) (by kernel_rfl) (by kernel_rfl) (fun _ _ _ h=>h) (Or.inl ⟨by rfl,?_⟩) (by assumption) ?_
 rotate_left
 ·(intro w hSw;(try dsimp only at hSw);go_simp <;> with_reducible rfl)
 simp only[List.getElem_toArray,List.getElem_cons_zero,List.getElem_cons_succ,Act.put,List.setIfInBounds_toArray,List.set_cons_zero,List.set_cons_succ]
 refine wpAnyH_take (i:=12) (v:=?_) rfl (by kernel_rfl) (by kernel_rfl) (by kernel_rfl) (fun _ _ _ h=>h) (Or.inl ⟨by rfl,?_⟩) (by assumption) ?_
 rotate_left
 ·(intro w hSw;(try dsimp only at hSw);go_simp <;> with_reducible rfl)
 simp only[List.getElem_toArray,List.getElem_cons_zero,List.getElem_cons_succ,Act.put,List.setIfInBounds_toArray,List.set_cons_zero,List.set_cons_succ]
 refine wpAnyH_ready (rs:=[13]) (by kernel_rfl) (by simp) ?_
 refine AllReadyH.cons rfl (fun K hK=>?_) ?_
 rotate_left
 ·exact AllReadyH.nil
 go_simp
 go_at_call 27
 refine (CC _).mono ?_
 rintro e w8 ⟨rfl,rfl⟩
 refine hK.out _ _ ?_ (fun hHeld=>?_)
 ·exact hHeld
 clear hK K
 refine wpAnyH_take (i:=14) (v:=?_) rfl (by kernel_rfl) (by kernel_rfl) (by kernel_rfl) (fun _ _ _ h=>h) (Or.inl ⟨by rfl,?_⟩) (by assumption) ?_
 rotate_left
 ·(intro w hSw;(try dsimp only at hSw);go_simp <;> with_reducible rfl)
 simp only[List.getElem_toArray,List.getElem_cons_zero,List.getElem_cons_succ,Act.put,List.setIfInBounds_toArray,List.set_cons_zero,List.set_cons_succ]
 refine wpAnyH_done (by kernel_rfl) ?_ _
 refine NoPanic.normal ?_
 clear hHeld CC hS0
 obtain ⟨wH,hwH⟩:∃ x,x=wG.drew:=⟨_,rfl⟩
 have bH:Below wG.heap.size wG wH:=by rw[hwH];exact below_drewN (Below.refl _ _) 1
 rw[←hwH]
 clear hwH
 have szH:=bH.size
 go_wp2
 go_ret
 obtain ⟨RSF,KF,LF,Nk,Lc⟩:=HT.out
 refine ⟨5,rS,vC,rfl,(RSF.keep (fun k hlt _=>bG.block k hlt)).keep (fun k hlt _=>bH.block k hlt),NC,(KF.trans (Keep.of bG (fun k hk=>hk)) (fun k hk=>by have:=hk.1;omega)).trans (Keep.of bH (fun k hk=>hk)) (fun k hk=>by have:=hk.1;omega),fun e=>hvf fb e rfl,?_⟩
 rw[hov]
 exact ⟨rfl,by decide,rfl⟩
set_option maxRecDepth 100000 in
set_option maxHeartbeats 3200000 in
theorem flItem_deep (w0:World) (hEv:Env w0) (g:Nat) (hg0:w0.heap.size≤g) (s:ByteArray) (hs:s.size≤10000) (n:Int) (col:Nat→Nat→Rd (NT × Nat)→Prop) (hcol:CollC w0 g s n col) (deep:Nat) (hd:deep≤80) (p fin fb:Nat) (lv:Value) (lead:Coms) (o:Rd (Coms × List NT × Rst)) (w:World) (h:RS g s n ⟨[],false,fin,p⟩ (.slice none 0 0) w) (hF:w.heap[fb]?=some (.cells #[.int .i64 (p:Int),lv,.slice none 0 0] 55 (0,0))) (hL:HasV 2 w lv lead.length (comV lead)) (hlg:lv.ownBlock≠some g) (hlf:lv.ownBlock≠some fb) (hfg:fb≠g) (_hll:lead.length≤20000) (hB:Bs w0 w [lv,blkV fb]) (hq:queryB s p=false) (hsg:signB s p false=false) (xk:NT) (rK:Rst) (hoK:nodeP s n col deep p (.ok (xk,rK))) (b1:Rst) (hoS:skipP s n rK (.ok b1)) (hsn:signB s b1.at' (nearN xk)=true) (hpr:p≤b1.at') (hrow:sameRow s p b1.at'=true) (hht:xk.htP≤1000) (hdk:(40:Int)≤(deep:Int)+(xk.htP:Int)) (hov:o=.bad p 6) :
  Calls Tryz.prog 15 #[.pointer (some ⟨g,0,none⟩),.pointer (some ⟨fb,0,none⟩),.int .i64 (deep:Int)] w fun e w'=>FldPost g s n fb (p:Int) w [lv,blkV fb] o e w':=by
 have hg:=h.cells.lt
 have hwf:=h.ok
 have htop:=hwf.top
 have hfb:fb<w.heap.size:=(Array.getElem?_eq_some_iff.1 hF).1
 have CQ:=flQuery_is false g s n p (fin:Int) (.slice none 0 0) false w h.cells (by omega) hq
 go_enter Tryz.func15,Tryz.ntmps15
 go_upto_region 5 with (first
  | (go_at_call 24;refine CQ.mono ?_;rintro e w1 ⟨rfl,j1,rfl⟩)
  | (go_at_call 25;refine (flColon_x false g s n p (fin:Int) (.slice none 0 0) false 0 0 0 0 ⟨#[]⟩ ⟨#[]⟩ ⟨#[]⟩ none 0 0 none 0 0 none 0 0 false ⟨#[]⟩ _ (h.drewN j1).cells (by omega) (by rw[show decide ((0:Int)=3∨(0:Int)=4∨(0:Int)=2∨(0:Int)=3)=false by decide];exact hsg)).mono ?_;rintro e w2 ⟨rfl,b2⟩))
 have b02:Below w.heap.size w w2:=(below_drewN (Below.refl _ _) j1).trans b2
 obtain ⟨wA,hwA⟩:∃ x,x=w2:=⟨_,rfl⟩
 rw[←hwA] at b02 ⊢
 clear hwA CQ
 have RSa:=h.below b02 (Nat.le_refl _)
 have Fa:=(b02.block fb hfb).trans hF
 have La:=hL.below b02 (Nat.le_refl _)
 have Ka:Keep (Lv w.heap.size g [lv,blkV fb]) w wA:=Keep.of b02 (fun k hk=>hk.1)
 have szA:=b02.size
 have hownL:=hL.own
 have CNo:=flNode_is w0 hEv g hg0 s hs n col hcol deep p fin (.ok (xk,rK)) wA (by omega) RSa (hB.next hg0 Ka (fun u hu=>by cases hu)) hoK
 go_upto_region 6 with (go_at_call 26;refine CNo.mono ?_;rintro e wP ⟨cs1,cP,rfl,x1,r1,v1,Rk,M1⟩;obtain ⟨kc0,kc1,kc2,kc3,kc4,kc5,kc6,kca,kcb,kcc,kcd,kce,kcf,kcg,kch,kci,kc7,kc8,rfl,hnear,-,-⟩:=M1.node.cellsK;have HM1:=Lib.hid M1;clear M1)
 obtain ⟨wR,hwR⟩:∃ wR,wR=wP.alloc (.cells #[.int .i64 kc0,.int .i64 kc1,.int .i64 kc2,.int .i64 kc3,.string kc4,.string kc5,.string kc6,.slice kca kcb kcc,.slice kcd kce kcf,.slice kcg kch kci,.bool kc7,.string kc8] 30):=⟨_,rfl⟩
 have zR:wR.heap.size=wP.heap.size+1:=by rw[hwR];simp
 have bR:Below wP.heap.size wP wR:=by rw[hwR];exact (Below.refl _ _).alloc (Nat.le_refl _) _
 have rR:wR.heap[wP.heap.size]?=some (.cells #[.int .i64 kc0,.int .i64 kc1,.int .i64 kc2,.int .i64 kc3,.string kc4,.string kc5,.string kc6,.slice kca kcb kcc,.slice kcd kce kcf,.slice kcg kch kci,.bool kc7,.string kc8] 30 (0,0)):=by rw[hwR];exact heap_alloc_new wP _
 rw[←hwR]
 clear hwR
 have M1:=HM1.out
 have szP:=M1.keep.size
 have hown1:=M1.st.has.own
 have hnew1:∀ k,v1.ownBlock=some k→wA.heap.size≤k:=fun k hk=>(by rcases M1.new k hk with h|⟨u,hu,_⟩;exact h;cases hu)
 have hR1:∀ k,Rk k→wA.heap.size≤k:=fun k hk=>(by rcases M1.own k hk with h|⟨u,hu,_⟩;exact h;cases hu)
 have hlt1:=M1.lt
 have hne1:=M1.ne
 have hgA:=RSa.cells.lt
 have RSr:RSb g s n r1 v1 wR:=M1.st.keep (fun k hlt _=>bR.block k hlt)
 have Fr:=(bR.block fb (by omega)).trans ((M1.keep.block fb ⟨by omega,hfg,fun u hu=>by cases hu⟩).trans Fa)
 have Lr:HasV 2 wR lv lead.length (comV lead):=La.keep (fun k hk hlt=>(bR.block k (by omega)).trans (M1.keep.block k ⟨hlt,fun e=>hlg (by rw[hk,e]),fun u hu=>by cases hu⟩))
 have Kr:Keep (Lv w.heap.size g [lv,blkV fb]) w wR:=(Ka.trans M1.keep (Lv.step Ka.size (fun u hu=>by cases hu))).trans (Q:=fun k=>k<w.heap.size) ⟨bR.os,bR.tape,bR.output,by omega,fun k hk=>bR.block k (by omega)⟩ (fun k hk=>hk.1)
 have Nr:IsN Rk wR x1 [.int .i64 kc0,.int .i64 kc1,.int .i64 kc2,.int .i64 kc3,.string kc4,.string kc5,.string kc6,.slice kca kcb kcc,.slice kcd kce kcf,.slice kcg kch kci,.bool kc7,.string kc8]:=IsN.frame (fun b hb=>⟨hb,bR.block b (M1.lt b hb)⟩) x1 _ M1.node
 have N1v:NewV w.heap.size [lv,blkV fb] v1:=fun k hk=>.inl (by have:=hnew1 k hk;omega)
 have hxl:x1.h.lead.length≤40000:=M1.few rfl
 have hres1:=M1.res
 have hwf1:=M1.wf
 obtain ⟨nb,hnb⟩:∃ nb,nb=wP.heap.size:=⟨_,rfl⟩
 rw[←hnb] at rR hlt1 hown1 szP zR ⊢
 have zR1:=Nat.le_of_eq zR
 have zR2:=Nat.le_of_eq zR.symm
 clear zR
 clear M1 HM1 CNo RSa Fa La Ka bR hnb b02 hF hL h
 obtain ⟨rfl,hee⟩:=hres1
 have ex:xk=x1:=congrArg Prod.fst hee
 have er:rK=r1:=congrArg Prod.snd hee
 clear hee
 subst ex
 subst er
 go_upto_region 8 with (go_at_call 19;refine (flSkip_of g s n rK v1 (.ok b1) _ (RSr.rs (hwf1 _ rfl)) hs hoS).mono ?_;rintro e wC ⟨cS,vC,rS,rfl,RSc,nC,KC,resS⟩;obtain ⟨rfl,rfl⟩:=resS)
 have szC:=KC.size
 have hownC:=RSc.has.own
 have hmC:∀ k,k<wR.heap.size→k≠g→v1.ownBlock≠some k→wC.heap[k]?=wR.heap[k]?:=fun k h1 h2 h3=>KC.block k ⟨h1,h2,fun u hu e=>by rw[List.mem_singleton] at hu;subst hu;exact h3 e⟩
 have hnC:∀ k,vC.ownBlock=some k→wA.heap.size≤k∧k≠nb∧(wR.heap.size≤k∨v1.ownBlock=some k):=fun k hk=>(by rcases nC k hk with h|⟨u,hu,h⟩;exact ⟨by omega,by omega,.inl h⟩;rw[List.mem_singleton] at hu;subst hu;exact ⟨hnew1 k h,by have:=hown1 k h;omega,.inr h⟩)
 have Fc:=(hmC fb (by omega) hfg (fun e=>by have:=hnew1 fb e;omega)).trans Fr
 have rc:=(hmC nb (by omega) (by omega) (fun e=>by have:=hown1 nb e;omega)).trans rR
 have Lc:HasV 2 wC lv lead.length (comV lead):=Lr.keep (fun k hk hlt=>hmC k hlt (fun e=>hlg (by rw[hk,e])) (fun e=>by have:=hnew1 k e;have:=hownL k hk;omega))
 have Kc:Keep (Lv w.heap.size g [lv,blkV fb]) w wC:=Kr.trans KC (Lv.step Kr.size (one_mem N1v))
 have NC:NewV w.heap.size [lv,blkV fb] vC:=nC.trans Kr.size (one_mem N1v)
 have szKr:=Kr.size
 have Nk:IsN Rk wC xk [.int .i64 kc0,.int .i64 kc1,.int .i64 kc2,.int .i64 kc3,.string kc4,.string kc5,.string kc6,.slice kca kcb kcc,.slice kcd kce kcf,.slice kcg kch kci,.bool kc7,.string kc8]:=IsN.frame (fun b hb=>⟨hb,hmC b (by have:=hlt1 b hb;omega) (hne1 b hb).1 (hne1 b hb).2⟩) xk _ Nr
 clear RSr Fr rR Lr Kr Nr KC nC hwf1
 have qnC:∀ j,wC.cell? ⟨nb,j,none⟩=(#[.int .i64 kc0,.int .i64 kc1,.int .i64 kc2,.int .i64 kc3,.string kc4,.string kc5,.string kc6,.slice kca kcb kcc,.slice kcd kce kcf,.slice kcg kch kci,.bool kc7,.string kc8]:Array Value)[j]?:=fun j=>cell_of_row wC _ j _ _ _ rc
 have qfF:∀ ob j,(wC.alloc ob).cell? ⟨fb,j,none⟩=(#[.int .i64 (p:Int),lv,.slice none 0 0]:Array Value)[j]?:=fun ob j=>cell_of_row _ _ j _ _ _ ((heap_alloc_old wC ob (show fb<wC.heap.size by omega)).trans Fc)
 have ffF:∀ ob j,(wC.alloc ob).frozen? ⟨fb,j,none⟩=false:=fun ob j=>frozen_of_row _ _ j _ _ ((heap_alloc_old wC ob (show fb<wC.heap.size by omega)).trans Fc)
 have HH:=Lib.hid (And.intro RSc (And.intro Lc (And.intro Kc Nk)))
 clear RSc Lc Kc Nk
 go_upto_region 9 with fail
 obtain ⟨RSc,Lc,Kc,Nk⟩:=HH.out
 obtain ⟨wF,hwF⟩:∃ wF,wF=(wC.alloc (.cells #[.int .i64 kc0,.int .i64 kc1,.int .i64 kc2,.int .i64 kc3,.string kc4,.string kc5,.string kc6,.slice kca kcb kcc,.slice kcd kce kcf,.slice kcg kch kci,.bool kc7,.string kc8] 30)).setCell ⟨fb,2,none⟩ (.slice (some ⟨wC.heap.size,0,none⟩) 1 1):=⟨_,rfl⟩
 have zF:wF.heap.size=wC.heap.size+1:=by rw[hwF];simp[World.setCell]
 have sF:∀ k,k<wC.heap.size→k≠fb→wF.heap[k]?=wC.heap[k]?:=fun k h1 h2=>by rw[hwF,heap_setCell_other _ _ _ _ h2];exact heap_alloc_old _ _ h1
 have oF:wF.os=wC.os∧wF.tape=wC.tape∧wF.output=wC.output:=by rw[hwF];exact ⟨rfl,rfl,rfl⟩
 have rF:wF.heap[wC.heap.size]?=some (.cells #[.int .i64 kc0,.int .i64 kc1,.int .i64 kc2,.int .i64 kc3,.string kc4,.string kc5,.string kc6,.slice kca kcb kcc,.slice kcd kce kcf,.slice kcg kch kci,.bool kc7,.string kc8] 30 (0,0)):=by rw[hwF,heap_setCell_other _ _ _ _ (show wC.heap.size≠fb by omega)];exact heap_alloc_new wC _
 have FF:wF.heap[fb]?=some (.cells #[.int .i64 (p:Int),lv,.slice (some ⟨wC.heap.size,0,none⟩) 1 1] 55 (0,0)):=by rw[hwF];exact heap_setCell_same _ _ 2 _ _ _ ((heap_alloc_old _ _ (show fb<wC.heap.size by omega)).trans Fc)
 rw[←hwF]
 have rnF:=(sF nb (by omega) (by omega)).trans rc
 clear hwF qnC qfF ffF
 have hvf:∀ k,vC.ownBlock=some k→k≠fb:=fun k hk=>by have:=(hnC k hk).1;omega
 have RSF:RSb g s n rS vC wF:=RSc.b.keep (fun k hlt hk=>sF k hlt (by rcases hk with rfl|hk;exact fun e=>hfg e.symm;exact hvf k hk))
 have LF:HasV 2 wF lv lead.length (comV lead):=Lc.keep (fun k hk hlt=>sF k hlt (fun e=>hlf (by rw[hk,e])))
 have szKC:=Kc.size
 have KF:Keep (Lv w.heap.size g [lv,blkV fb]) w wF:=Kc.trans (Q:=fun k=>k<w.heap.size∧k≠fb) ⟨oF.1,oF.2.1,oF.2.2,by omega,fun k hk=>sF k (by have:=hk.1;omega) hk.2⟩ (fun k hk=>⟨hk.1,fun e=>hk.2.2 (blkV fb) (by simp) (by rw[e];rfl)⟩)
 have wfS:=RSc.ok
 have htS:=wfS.top
 have CLA:=flColon_x true g s n rS.at' (rS.fin:Int) vC rS.same kc0 kc1 kc2 kc3 kc4 kc5 kc6 kca kcb kcc kcd kce kcf kcg kch kci kc7 kc8 wF RSF.cells (by omega) (by rw[←hnear];exact hsn)
 have qnF:∀ j,wF.cell? ⟨nb,j,none⟩=(#[.int .i64 kc0,.int .i64 kc1,.int .i64 kc2,.int .i64 kc3,.string kc4,.string kc5,.string kc6,.slice kca kcb kcc,.slice kcd kce kcf,.slice kcg kch kci,.bool kc7,.string kc8]:Array Value)[j]?:=fun j=>cell_of_row wF _ j _ _ _ rnF
 have HT:=Lib.hid (And.intro RSF (And.intro KF (And.intro LF (And.intro Nk Lc))))
 clear RSF KF LF Nk Lc Kc HH RSc
 go_wp2_with fail
 refine CLA.mono ?_
 rintro e wG ⟨rfl,bG⟩
 clear CLA qnF
 have AG:FlAt g s n (rS.at':Int) (rS.fin:Int) vC rS.same wG:=HT.out.1.cells.below bG HT.out.1.cells.lt
 have FG:=(bG.block fb (by omega)).trans FF
 have szG:=bG.size
 have hS0:wG.cell? ⟨g,0,none⟩=some (.string s)∧wG.cell? ⟨g,2,none⟩=some (.int .i64 (rS.at':Int))∧wG.cell? ⟨fb,0,none⟩=some (.int .i64 (p:Int)):=⟨AG.cell 0,AG.cell 2,cell_of_row wG _ 0 _ _ _ FG⟩
 have CC:∀ W,Calls Tryz.prog 27 #[.string (s.extract p rS.at'),.string ⟨#[10]⟩] W fun e w'=>e=.returned (.bool false)∧w'=W:=fun W=>by
  have h1:=Tryz.strings_Contains_one (s.extract p rS.at') 10 W
  rw[lf_in hpr htS,hrow] at h1
  exact h1
 have i1:(p:Int)≤(rS.at':Int):=by omega
 have i2:(rS.at':Int)≤(s.size:Int):=by omega
 go_wp2_with fail
 refine wp_region_noPanic ?_
 refine wp_region_held_drew (S:=fun w'=>(w'.cell? ⟨g,0,none⟩=some (.string s)∧w'.cell? ⟨g,2,none⟩=some (.int .i64 (rS.at':Int))∧w'.cell? ⟨fb,0,none⟩=some (.int .i64 (p:Int)))) (by kernel_rfl) ?_ (fun hHeld=>?_)
 ·exact hS0
 refine wpAnyH_take (i:=0) (v:=?_) rfl (by kernel_rfl) (by kernel_rfl) (by kernel_rfl) (fun _ _ _ h=>h) (Or.inl ⟨by rfl,?_⟩) (by assumption) ?_
 rotate_left
 ·(intro w hSw;(try dsimp only at hSw);go_simp <;> with_reducible rfl)
 simp only[List.getElem_toArray,List.getElem_cons_zero,Act.put,List.setIfInBounds_toArray,List.set_cons_zero,List.set_cons_succ]
 refine wpAnyH_take (i:=1) (v:=?_) rfl (by kernel_rfl) (by kernel_rfl) (by kernel_rfl) (fun _ _ _ h=>h) (Or.inl ⟨by rfl,?_⟩) (by assumption) ?_
 rotate_left
 ·(intro w hSw;(try dsimp only at hSw);go_simp <;> with_reducible rfl)
 simp only[List.getElem_toArray,List.getElem_cons_zero,List.getElem_cons_succ,Act.put,List.setIfInBounds_toArray,List.set_cons_zero,List.set_cons_succ]
 refine wpAnyH_take (i:=2) (v:=?_) rfl (by kernel_rfl) (by kernel_rfl) (by kernel_rfl) (fun _ _ _ h=>h) (Or.inl ⟨by rfl,?_⟩) (by assumption) ?_
 rotate_left
 ·(intro w hSw;(try dsimp only at hSw);go_simp <;> with_reducible rfl)
 simp only[List.getElem_toArray,List.getElem_cons_zero,List.getElem_cons_succ,Act.put,List.setIfInBounds_toArray,List.set_cons_zero,List.set_cons_succ]
 refine wpAnyH_take (i:=3) (v:=?_) rfl (by kernel_rfl) (by kernel_rfl) (by kernel_rfl) (fun _ _ _ h=>h) (Or.inl ⟨by rfl,?_⟩) (by assumption) ?_
 rotate_left
 ·(intro w hSw;(try dsimp only at hSw);go_simp <;> with_reducible rfl)
 simp only[List.getElem_toArray,List.getElem_cons_zero,List.getElem_cons_succ,Act.put,List.setIfInBounds_toArray,List.set_cons_zero,List.set_cons_succ]
 refine wpAnyH_take (i:=4) (v:=?_) rfl (by kernel_rfl) (by kernel_rfl) (by kernel_rfl) (fun _ _ _ h=>h) (Or.inl ⟨by rfl,?_⟩) (by assumption) ?_
 rotate_left
 ·(intro w hSw;(try dsimp only at hSw);go_simp <;> with_reducible rfl)
 simp only[List.getElem_toArray,List.getElem_cons_zero,List.getElem_cons_succ,Act.put,List.setIfInBounds_toArray,List.set_cons_zero,List.set_cons_succ]
 refine wpAnyH_take (i:=5) (v:=?_) rfl (by kernel_rfl) (by kernel_rfl) (by kernel_rfl) (fun _ _ _ h=>h) (Or.inl ⟨by rfl,?_⟩) (by assumption) ?_
 rotate_left
 ·(intro w hSw;(try dsimp only at hSw);go_simp <;> with_reducible rfl)
 simp only[List.getElem_toArray,List.getElem_cons_zero,List.getElem_cons_succ,Act.put,List.setIfInBounds_toArray,List.set_cons_zero,List.set_cons_succ]
 refine wpAnyH_take (i:=6) (v:=?_) rfl (by kernel_rfl) (by kernel_rfl) (by kernel_rfl) (fun _ _ _ h=>h) (Or.inl ⟨by rfl,?_⟩) (by assumption) ?_
 rotate_left
 ·(intro w hSw;(try dsimp only at hSw);go_simp <;> with_reducible rfl)
 simp only[List.getElem_toArray,List.getElem_cons_zero,List.getElem_cons_succ,Act.put,List.setIfInBounds_toArray,List.set_cons_zero,List.set_cons_succ]
 refine wpAnyH_take (i:=7) (v:=?_) rfl (by kernel_rfl) (by kernel_rfl) (by kernel_rfl) (fun _ _ _ h=>h) (Or.inl ⟨by rfl,?_⟩) (by assumption) ?_
 rotate_left
 ·(intro w hSw;(try dsimp only at hSw);go_simp <;> with_reducible rfl)
 simp only[List.getElem_toArray,List.getElem_cons_zero,List.getElem_cons_succ,Act.put,List.setIfInBounds_toArray,List.set_cons_zero,List.set_cons_succ]
 refine wpAnyH_take (i:=8) (v:=?_) rfl (by kernel_rfl) (by kernel_rfl) (by kernel_rfl) (fun _ _ _ h=>h) (Or.inl ⟨by rfl,?_⟩) (by assumption) ?_
 rotate_left
 ·(intro w hSw;(try dsimp only at hSw);go_simp <;> with_reducible rfl)
 simp only[List.getElem_toArray,List.getElem_cons_zero,List.getElem_cons_succ,Act.put,List.setIfInBounds_toArray,List.set_cons_zero,List.set_cons_succ]
 refine wpAnyH_take (i:=9) (v:=?_) rfl (by kernel_rfl) (by kernel_rfl) (by kernel_rfl) (fun _ _ _ h=>h) (Or.inl ⟨by rfl,?_⟩) (by assumption) ?_
 rotate_left
 ·(intro w hSw;(try dsimp only at hSw);go_simp <;> with_reducible rfl)
 simp only[List.getElem_toArray,List.getElem_cons_zero,List.getElem_cons_succ,Act.put,List.setIfInBounds_toArray,List.set_cons_zero,List.set_cons_succ]
 refine wpAnyH_take (i:=10) (v:=?_) rfl (by kernel_rfl) (by kernel_rfl) (by kernel_rfl) (fun _ _ _ h=>h) (Or.inl ⟨by rfl,?_⟩) (by assumption) ?_
 rotate_left
 ·(intro w hSw;(try dsimp only at hSw);go_simp <;> with_reducible rfl)
 simp only[List.getElem_toArray,List.getElem_cons_zero,List.getElem_cons_succ,Act.put,List.setIfInBounds_toArray,List.set_cons_zero,List.set_cons_succ]
 refine wpAnyH_take (i:=11) (v:=?_) rfl (by kernel_rfl) (by kernel_rfl) (by kernel_rfl) (fun _ _ _ h=>h) (Or.inl ⟨by rfl,?_⟩) (by assumption) ?_
 rotate_left
 ·(intro w hSw;(try dsimp only at hSw);go_simp <;> with_reducible rfl)
 simp only[List.getElem_toArray,List.getElem_cons_zero,List.getElem_cons_succ,Act.put,List.setIfInBounds_toArray,List.set_cons_zero,List.set_cons_succ]
 refine wpAnyH_take (i:=12) (v:=?_) rfl (by kernel_rfl) (by kernel_rfl) (by kernel_rfl) (fun _ _ _ h=>h) (Or.inl ⟨by rfl,?_⟩) (by assumption) ?_
 rotate_left
 ·(intro w hSw;(try dsimp only at hSw);go_simp <;> with_reducible rfl)
 simp only[List.getElem_toArray,List.getElem_cons_zero,List.getElem_cons_succ,Act.put,List.setIfInBounds_toArray,List.set_cons_zero,List.set_cons_succ]
 refine wpAnyH_ready (rs:=[13]) (by kernel_rfl) (by simp) ?_
 refine AllReadyH.cons rfl (fun K hK=>?_) ?_
 rotate_left
 ·exact AllReadyH.nil
 go_simp
 go_at_call 27
 refine (CC _).mono ?_
 rintro e w8 ⟨rfl,rfl⟩
 refine hK.out _ _ ?_ (fun hHeld=>?_)
 ·exact hHeld
 clear hK K
 refine wpAnyH_take (i:=14) (v:=?_) rfl (by kernel_rfl) (by kernel_rfl) (by kernel_rfl) (fun _ _ _ h=>h) (Or.inl ⟨by rfl,?_⟩) (by assumption) ?_
 rotate_left
 ·(intro w hSw;(try dsimp only at hSw);go_simp <;> with_reducible rfl)
 simp only[List.getElem_toArray,List.getElem_cons_zero,List.getElem_cons_succ,Act.put,List.setIfInBounds_toArray,List.set_cons_zero,List.set_cons_succ]
 refine wpAnyH_done (by kernel_rfl) ?_ _
 refine NoPanic.normal ?_
 clear hHeld CC hS0
 obtain ⟨wH,hwH⟩:∃ x,x=wG.drew:=⟨_,rfl⟩
 have bH:Below wG.heap.size wG wH:=by rw[hwH];exact below_drewN (Below.refl _ _) 1
 rw[←hwH]
 clear hwH
 have szH:=bH.size
 have NkH:IsN (Lo wH.heap.size) wH xk [.int .i64 kc0,.int .i64 kc1,.int .i64 kc2,.int .i64 kc3,.string kc4,.string kc5,.string kc6,.slice kca kcb kcc,.slice kcd kce kcf,.slice kcg kch kci,.bool kc7,.string kc8]:=IsN.frame (fun b hb=>⟨by have:=hlt1 b hb;show b<wH.heap.size;omega,(bH.block b (by have:=hlt1 b hb;omega)).trans ((bG.block b (by have:=hlt1 b hb;omega)).trans (sF b (by have:=hlt1 b hb;omega) (by have:=hR1 b hb;omega)))⟩) xk _ HT.out.2.2.2.1
 have CH:Calls Tryz.prog 28 #[.agg #[.int .i64 kc0,.int .i64 kc1,.int .i64 kc2,.int .i64 kc3,.string kc4,.string kc5,.string kc6,.slice kca kcb kcc,.slice kcd kce kcf,.slice kcg kch kci,.bool kc7,.string kc8]] wH fun e w'=>e=.returned (.int .i64 (xk.htP:Int))∧Below wH.heap.size wH w':=flHeight_is xk [.int .i64 kc0,.int .i64 kc1,.int .i64 kc2,.int .i64 kc3,.string kc4,.string kc5,.string kc6,.slice kca kcb kcc,.slice kcd kce kcf,.slice kcg kch kci,.bool kc7,.string kc8] wH hht NkH
 have rnH:=(bH.block nb (by omega)).trans ((bG.block nb (by omega)).trans rnF)
 have qnH:∀ j,wH.cell? ⟨nb,j,none⟩=(#[.int .i64 kc0,.int .i64 kc1,.int .i64 kc2,.int .i64 kc3,.string kc4,.string kc5,.string kc6,.slice kca kcb kcc,.slice kcd kce kcf,.slice kcg kch kci,.bool kc7,.string kc8]:Array Value)[j]?:=fun j=>cell_of_row wH _ j _ _ _ rnH
 go_wp2_with fail
 refine CH.mono ?_
 rintro e wI ⟨rfl,bI⟩
 clear CH qnH NkH
 have szI:=bI.size
 have AI:=(AG.below bH AG.lt).below bI (by have:=AG.lt;omega)
 have FI:=(bI.block fb (by omega)).trans ((bH.block fb (by omega)).trans FG)
 have qgI:=AI.cell
 have qgF:=AI.free
 have qfI:∀ j,wI.cell? ⟨fb,j,none⟩=(#[.int .i64 (p:Int),lv,.slice (some ⟨wC.heap.size,0,none⟩) 1 1]:Array Value)[j]?:=fun j=>cell_of_row wI _ j _ _ _ FI
 go_wp2
 go_ret
 obtain ⟨RSF,KF,LF,Nk,Lc⟩:=HT.out
 have hsI:∀ k,k≠g→(wI.setCell ⟨g,2,none⟩ (.int .i64 (p:Int))).heap[k]?=wI.heap[k]?:=fun k hk=>heap_setCell_other _ _ _ _ hk
 have KI:Keep (Lv w.heap.size g [lv,blkV fb]) w wI:=((KF.trans (Keep.of bG (fun k hk=>hk)) (fun k hk=>by have:=hk.1;omega)).trans (Keep.of bH (fun k hk=>hk)) (fun k hk=>by have:=hk.1;omega)).trans (Keep.of bI (fun k hk=>hk)) (fun k hk=>by have:=hk.1;omega)
 have RSI:=((RSF.keep (fun k hlt _=>bG.block k hlt)).keep (fun k hlt _=>bH.block k hlt)).keep (fun k hlt _=>bI.block k hlt)
 refine ⟨6,⟨rS.l,rS.same,rS.fin,p⟩,vC,rfl,⟨heap_setCell_same _ _ 2 _ _ _ AI,RSI.has.keep (fun k hk _=>hsI k (fun e=>RSI.apart (by rw[hk,e]))),RSI.apart⟩,NC,KI.trans (Q:=fun k=>k≠g) ⟨rfl,rfl,rfl,by simp[World.setCell],fun k hk=>hsI k hk⟩ (fun k hk=>hk.2.1),fun e=>hvf fb e rfl,?_⟩
 rw[hov]
 exact ⟨rfl,by decide,rfl⟩
set_option maxRecDepth 100000 in
set_option maxHeartbeats 3200000 in
theorem flItem_two (w0:World) (hEv:Env w0) (g:Nat) (hg0:w0.heap.size≤g) (s:ByteArray) (hs:s.size≤10000) (n:Int) (col:Nat→Nat→Rd (NT × Nat)→Prop) (hcol:CollC w0 g s n col) (deep:Nat) (hd:deep≤80) (p fin fb:Nat) (lv:Value) (lead:Coms) (o:Rd (Coms × List NT × Rst)) (w:World) (h:RS g s n ⟨[],false,fin,p⟩ (.slice none 0 0) w) (hF:w.heap[fb]?=some (.cells #[.int .i64 (p:Int),lv,.slice none 0 0] 55 (0,0))) (hL:HasV 2 w lv lead.length (comV lead)) (hlg:lv.ownBlock≠some g) (hlf:lv.ownBlock≠some fb) (hfg:fb≠g) (_hll:lead.length≤20000) (hB:Bs w0 w [lv,blkV fb]) (hq:queryB s p=false) (hsg:signB s p false=false) (xk:NT) (rK:Rst) (hoK:nodeP s n col deep p (.ok (xk,rK))) (b1:Rst) (hoS:skipP s n rK (.ok b1)) (hsn:signB s b1.at' (nearN xk)=true) (hpr:p≤b1.at') (hrow:sameRow s p b1.at'=true) (hht:xk.htP≤1000) (hdk:¬ (40:Int)≤(deep:Int)+(xk.htP:Int)) (oV:Rd (NT × Rst)) (hoV:valueP s n col xk (deep+1) b1 oV) (hov:o=fldO lead xk oV) :
  Calls Tryz.prog 15 #[.pointer (some ⟨g,0,none⟩),.pointer (some ⟨fb,0,none⟩),.int .i64 (deep:Int)] w fun e w'=>FldPost g s n fb (p:Int) w [lv,blkV fb] o e w':=by
 have hg:=h.cells.lt
 have hwf:=h.ok
 have htop:=hwf.top
 have hfb:fb<w.heap.size:=(Array.getElem?_eq_some_iff.1 hF).1
 have CQ:=flQuery_is false g s n p (fin:Int) (.slice none 0 0) false w h.cells (by omega) hq
 go_enter Tryz.func15,Tryz.ntmps15
 go_upto_region 5 with (first
  | (go_at_call 24;refine CQ.mono ?_;rintro e w1 ⟨rfl,j1,rfl⟩)
  | (go_at_call 25;refine (flColon_x false g s n p (fin:Int) (.slice none 0 0) false 0 0 0 0 ⟨#[]⟩ ⟨#[]⟩ ⟨#[]⟩ none 0 0 none 0 0 none 0 0 false ⟨#[]⟩ _ (h.drewN j1).cells (by omega) (by rw[show decide ((0:Int)=3∨(0:Int)=4∨(0:Int)=2∨(0:Int)=3)=false by decide];exact hsg)).mono ?_;rintro e w2 ⟨rfl,b2⟩))
 have b02:Below w.heap.size w w2:=(below_drewN (Below.refl _ _) j1).trans b2
 obtain ⟨wA,hwA⟩:∃ x,x=w2:=⟨_,rfl⟩
 rw[←hwA] at b02 ⊢
 clear hwA CQ
 have RSa:=h.below b02 (Nat.le_refl _)
 have Fa:=(b02.block fb hfb).trans hF
 have La:=hL.below b02 (Nat.le_refl _)
 have Ka:Keep (Lv w.heap.size g [lv,blkV fb]) w wA:=Keep.of b02 (fun k hk=>hk.1)
 have szA:=b02.size
 have hownL:=hL.own
 have CNo:=flNode_is w0 hEv g hg0 s hs n col hcol deep p fin (.ok (xk,rK)) wA (by omega) RSa (hB.next hg0 Ka (fun u hu=>by cases hu)) hoK
 go_upto_region 6 with (go_at_call 26;refine CNo.mono ?_;rintro e wP ⟨cs1,cP,rfl,x1,r1,v1,Rk,M1⟩;obtain ⟨kc0,kc1,kc2,kc3,kc4,kc5,kc6,kca,kcb,kcc,kcd,kce,kcf,kcg,kch,kci,kc7,kc8,rfl,hnear,-,-⟩:=M1.node.cellsK;have HM1:=Lib.hid M1;clear M1)
 obtain ⟨wR,hwR⟩:∃ wR,wR=wP.alloc (.cells #[.int .i64 kc0,.int .i64 kc1,.int .i64 kc2,.int .i64 kc3,.string kc4,.string kc5,.string kc6,.slice kca kcb kcc,.slice kcd kce kcf,.slice kcg kch kci,.bool kc7,.string kc8] 30):=⟨_,rfl⟩
 have zR:wR.heap.size=wP.heap.size+1:=by rw[hwR];simp
 have bR:Below wP.heap.size wP wR:=by rw[hwR];exact (Below.refl _ _).alloc (Nat.le_refl _) _
 have rR:wR.heap[wP.heap.size]?=some (.cells #[.int .i64 kc0,.int .i64 kc1,.int .i64 kc2,.int .i64 kc3,.string kc4,.string kc5,.string kc6,.slice kca kcb kcc,.slice kcd kce kcf,.slice kcg kch kci,.bool kc7,.string kc8] 30 (0,0)):=by rw[hwR];exact heap_alloc_new wP _
 rw[←hwR]
 clear hwR
 have M1:=HM1.out
 have szP:=M1.keep.size
 have hown1:=M1.st.has.own
 have hnew1:∀ k,v1.ownBlock=some k→wA.heap.size≤k:=fun k hk=>(by rcases M1.new k hk with h|⟨u,hu,_⟩;exact h;cases hu)
 have hR1:∀ k,Rk k→wA.heap.size≤k:=fun k hk=>(by rcases M1.own k hk with h|⟨u,hu,_⟩;exact h;cases hu)
 have hlt1:=M1.lt
 have hne1:=M1.ne
 have hgA:=RSa.cells.lt
 have RSr:RSb g s n r1 v1 wR:=M1.st.keep (fun k hlt _=>bR.block k hlt)
 have Fr:=(bR.block fb (by omega)).trans ((M1.keep.block fb ⟨by omega,hfg,fun u hu=>by cases hu⟩).trans Fa)
 have Lr:HasV 2 wR lv lead.length (comV lead):=La.keep (fun k hk hlt=>(bR.block k (by omega)).trans (M1.keep.block k ⟨hlt,fun e=>hlg (by rw[hk,e]),fun u hu=>by cases hu⟩))
 have Kr:Keep (Lv w.heap.size g [lv,blkV fb]) w wR:=(Ka.trans M1.keep (Lv.step Ka.size (fun u hu=>by cases hu))).trans (Q:=fun k=>k<w.heap.size) ⟨bR.os,bR.tape,bR.output,by omega,fun k hk=>bR.block k (by omega)⟩ (fun k hk=>hk.1)
 have Nr:IsN Rk wR x1 [.int .i64 kc0,.int .i64 kc1,.int .i64 kc2,.int .i64 kc3,.string kc4,.string kc5,.string kc6,.slice kca kcb kcc,.slice kcd kce kcf,.slice kcg kch kci,.bool kc7,.string kc8]:=IsN.frame (fun b hb=>⟨hb,bR.block b (M1.lt b hb)⟩) x1 _ M1.node
 have N1v:NewV w.heap.size [lv,blkV fb] v1:=fun k hk=>.inl (by have:=hnew1 k hk;omega)
 have hxl:x1.h.lead.length≤40000:=M1.few rfl
 have hres1:=M1.res
 have hwf1:=M1.wf
 obtain ⟨nb,hnb⟩:∃ nb,nb=wP.heap.size:=⟨_,rfl⟩
 rw[←hnb] at rR hlt1 hown1 szP zR ⊢
 have zR1:=Nat.le_of_eq zR
 have zR2:=Nat.le_of_eq zR.symm
 clear zR
 clear M1 HM1 CNo RSa Fa La Ka bR hnb b02 hF hL h
 obtain ⟨rfl,hee⟩:=hres1
 have ex:xk=x1:=congrArg Prod.fst hee
 have er:rK=r1:=congrArg Prod.snd hee
 clear hee
 subst ex
 subst er
 go_upto_region 8 with (go_at_call 19;refine (flSkip_of g s n rK v1 (.ok b1) _ (RSr.rs (hwf1 _ rfl)) hs hoS).mono ?_;rintro e wC ⟨cS,vC,rS,rfl,RSc,nC,KC,resS⟩;obtain ⟨rfl,rfl⟩:=resS)
 have szC:=KC.size
 have hownC:=RSc.has.own
 have hmC:∀ k,k<wR.heap.size→k≠g→v1.ownBlock≠some k→wC.heap[k]?=wR.heap[k]?:=fun k h1 h2 h3=>KC.block k ⟨h1,h2,fun u hu e=>by rw[List.mem_singleton] at hu;subst hu;exact h3 e⟩
 have hnC:∀ k,vC.ownBlock=some k→wA.heap.size≤k∧k≠nb∧(wR.heap.size≤k∨v1.ownBlock=some k):=fun k hk=>(by rcases nC k hk with h|⟨u,hu,h⟩;exact ⟨by omega,by omega,.inl h⟩;rw[List.mem_singleton] at hu;subst hu;exact ⟨hnew1 k h,by have:=hown1 k h;omega,.inr h⟩)
 have Fc:=(hmC fb (by omega) hfg (fun e=>by have:=hnew1 fb e;omega)).trans Fr
 have rc:=(hmC nb (by omega) (by omega) (fun e=>by have:=hown1 nb e;omega)).trans rR
 have Lc:HasV 2 wC lv lead.length (comV lead):=Lr.keep (fun k hk hlt=>hmC k hlt (fun e=>hlg (by rw[hk,e])) (fun e=>by have:=hnew1 k e;have:=hownL k hk;omega))
 have Kc:Keep (Lv w.heap.size g [lv,blkV fb]) w wC:=Kr.trans KC (Lv.step Kr.size (one_mem N1v))
 have NC:NewV w.heap.size [lv,blkV fb] vC:=nC.trans Kr.size (one_mem N1v)
 have szKr:=Kr.size
 have Nk:IsN Rk wC xk [.int .i64 kc0,.int .i64 kc1,.int .i64 kc2,.int .i64 kc3,.string kc4,.string kc5,.string kc6,.slice kca kcb kcc,.slice kcd kce kcf,.slice kcg kch kci,.bool kc7,.string kc8]:=IsN.frame (fun b hb=>⟨hb,hmC b (by have:=hlt1 b hb;omega) (hne1 b hb).1 (hne1 b hb).2⟩) xk _ Nr
 clear RSr Fr rR Lr Kr Nr KC nC hwf1
 have qnC:∀ j,wC.cell? ⟨nb,j,none⟩=(#[.int .i64 kc0,.int .i64 kc1,.int .i64 kc2,.int .i64 kc3,.string kc4,.string kc5,.string kc6,.slice kca kcb kcc,.slice kcd kce kcf,.slice kcg kch kci,.bool kc7,.string kc8]:Array Value)[j]?:=fun j=>cell_of_row wC _ j _ _ _ rc
 have qfF:∀ ob j,(wC.alloc ob).cell? ⟨fb,j,none⟩=(#[.int .i64 (p:Int),lv,.slice none 0 0]:Array Value)[j]?:=fun ob j=>cell_of_row _ _ j _ _ _ ((heap_alloc_old wC ob (show fb<wC.heap.size by omega)).trans Fc)
 have ffF:∀ ob j,(wC.alloc ob).frozen? ⟨fb,j,none⟩=false:=fun ob j=>frozen_of_row _ _ j _ _ ((heap_alloc_old wC ob (show fb<wC.heap.size by omega)).trans Fc)
 have HH:=Lib.hid (And.intro RSc (And.intro Lc (And.intro Kc Nk)))
 clear RSc Lc Kc Nk
 go_upto_region 9 with fail
 obtain ⟨RSc,Lc,Kc,Nk⟩:=HH.out
 obtain ⟨wF,hwF⟩:∃ wF,wF=(wC.alloc (.cells #[.int .i64 kc0,.int .i64 kc1,.int .i64 kc2,.int .i64 kc3,.string kc4,.string kc5,.string kc6,.slice kca kcb kcc,.slice kcd kce kcf,.slice kcg kch kci,.bool kc7,.string kc8] 30)).setCell ⟨fb,2,none⟩ (.slice (some ⟨wC.heap.size,0,none⟩) 1 1):=⟨_,rfl⟩
 have zF:wF.heap.size=wC.heap.size+1:=by rw[hwF];simp[World.setCell]
 have sF:∀ k,k<wC.heap.size→k≠fb→wF.heap[k]?=wC.heap[k]?:=fun k h1 h2=>by rw[hwF,heap_setCell_other _ _ _ _ h2];exact heap_alloc_old _ _ h1
 have oF:wF.os=wC.os∧wF.tape=wC.tape∧wF.output=wC.output:=by rw[hwF];exact ⟨rfl,rfl,rfl⟩
 have rF:wF.heap[wC.heap.size]?=some (.cells #[.int .i64 kc0,.int .i64 kc1,.int .i64 kc2,.int .i64 kc3,.string kc4,.string kc5,.string kc6,.slice kca kcb kcc,.slice kcd kce kcf,.slice kcg kch kci,.bool kc7,.string kc8] 30 (0,0)):=by rw[hwF,heap_setCell_other _ _ _ _ (show wC.heap.size≠fb by omega)];exact heap_alloc_new wC _
 have FF:wF.heap[fb]?=some (.cells #[.int .i64 (p:Int),lv,.slice (some ⟨wC.heap.size,0,none⟩) 1 1] 55 (0,0)):=by rw[hwF];exact heap_setCell_same _ _ 2 _ _ _ ((heap_alloc_old _ _ (show fb<wC.heap.size by omega)).trans Fc)
 rw[←hwF]
 have rnF:=(sF nb (by omega) (by omega)).trans rc
 clear hwF qnC qfF ffF
 have hvf:∀ k,vC.ownBlock=some k→k≠fb:=fun k hk=>by have:=(hnC k hk).1;omega
 have RSF:RSb g s n rS vC wF:=RSc.b.keep (fun k hlt hk=>sF k hlt (by rcases hk with rfl|hk;exact fun e=>hfg e.symm;exact hvf k hk))
 have LF:HasV 2 wF lv lead.length (comV lead):=Lc.keep (fun k hk hlt=>sF k hlt (fun e=>hlf (by rw[hk,e])))
 have szKC:=Kc.size
 have KF:Keep (Lv w.heap.size g [lv,blkV fb]) w wF:=Kc.trans (Q:=fun k=>k<w.heap.size∧k≠fb) ⟨oF.1,oF.2.1,oF.2.2,by omega,fun k hk=>sF k (by have:=hk.1;omega) hk.2⟩ (fun k hk=>⟨hk.1,fun e=>hk.2.2 (blkV fb) (by simp) (by rw[e];rfl)⟩)
 have wfS:=RSc.ok
 have htS:=wfS.top
 have CLA:=flColon_x true g s n rS.at' (rS.fin:Int) vC rS.same kc0 kc1 kc2 kc3 kc4 kc5 kc6 kca kcb kcc kcd kce kcf kcg kch kci kc7 kc8 wF RSF.cells (by omega) (by rw[←hnear];exact hsn)
 have qnF:∀ j,wF.cell? ⟨nb,j,none⟩=(#[.int .i64 kc0,.int .i64 kc1,.int .i64 kc2,.int .i64 kc3,.string kc4,.string kc5,.string kc6,.slice kca kcb kcc,.slice kcd kce kcf,.slice kcg kch kci,.bool kc7,.string kc8]:Array Value)[j]?:=fun j=>cell_of_row wF _ j _ _ _ rnF
 have HT:=Lib.hid (And.intro RSF (And.intro KF (And.intro LF (And.intro Nk Lc))))
 clear RSF KF LF Nk Lc Kc HH RSc
 go_wp2_with fail
 refine CLA.mono ?_
 rintro e wG ⟨rfl,bG⟩
 clear CLA qnF
 have AG:FlAt g s n (rS.at':Int) (rS.fin:Int) vC rS.same wG:=HT.out.1.cells.below bG HT.out.1.cells.lt
 have FG:=(bG.block fb (by omega)).trans FF
 have szG:=bG.size
 have hS0:wG.cell? ⟨g,0,none⟩=some (.string s)∧wG.cell? ⟨g,2,none⟩=some (.int .i64 (rS.at':Int))∧wG.cell? ⟨fb,0,none⟩=some (.int .i64 (p:Int)):=⟨AG.cell 0,AG.cell 2,cell_of_row wG _ 0 _ _ _ FG⟩
 have CC:∀ W,Calls Tryz.prog 27 #[.string (s.extract p rS.at'),.string ⟨#[10]⟩] W fun e w'=>e=.returned (.bool false)∧w'=W:=fun W=>by
  have h1:=Tryz.strings_Contains_one (s.extract p rS.at') 10 W
  rw[lf_in hpr htS,hrow] at h1
  exact h1
 have i1:(p:Int)≤(rS.at':Int):=by omega
 have i2:(rS.at':Int)≤(s.size:Int):=by omega
 go_wp2_with fail
 refine wp_region_noPanic ?_
 refine wp_region_held_drew (S:=fun w'=>(w'.cell? ⟨g,0,none⟩=some (.string s)∧w'.cell? ⟨g,2,none⟩=some (.int .i64 (rS.at':Int))∧w'.cell? ⟨fb,0,none⟩=some (.int .i64 (p:Int)))) (by kernel_rfl) ?_ (fun hHeld=>?_)
 ·exact hS0
 refine wpAnyH_take (i:=0) (v:=?_) rfl (by kernel_rfl) (by kernel_rfl) (by kernel_rfl) (fun _ _ _ h=>h) (Or.inl ⟨by rfl,?_⟩) (by assumption) ?_
 rotate_left
 ·(intro w hSw;(try dsimp only at hSw);go_simp <;> with_reducible rfl)
 simp only[List.getElem_toArray,List.getElem_cons_zero,Act.put,List.setIfInBounds_toArray,List.set_cons_zero,List.set_cons_succ]
 refine wpAnyH_take (i:=1) (v:=?_) rfl (by kernel_rfl) (by kernel_rfl) (by kernel_rfl) (fun _ _ _ h=>h) (Or.inl ⟨by rfl,?_⟩) (by assumption) ?_
 rotate_left
 ·(intro w hSw;(try dsimp only at hSw);go_simp <;> with_reducible rfl)
 simp only[List.getElem_toArray,List.getElem_cons_zero,List.getElem_cons_succ,Act.put,List.setIfInBounds_toArray,List.set_cons_zero,List.set_cons_succ]
 refine wpAnyH_take (i:=2) (v:=?_) rfl (by kernel_rfl) (by kernel_rfl) (by kernel_rfl) (fun _ _ _ h=>h) (Or.inl ⟨by rfl,?_⟩) (by assumption) ?_
 rotate_left
 ·(intro w hSw;(try dsimp only at hSw);go_simp <;> with_reducible rfl)
 simp only[List.getElem_toArray,List.getElem_cons_zero,List.getElem_cons_succ,Act.put,List.setIfInBounds_toArray,List.set_cons_zero,List.set_cons_succ]
 refine wpAnyH_take (i:=3) (v:=?_) rfl (by kernel_rfl) (by kernel_rfl) (by kernel_rfl) (fun _ _ _ h=>h) (Or.inl ⟨by rfl,?_⟩) (by assumption) ?_
 rotate_left
 ·(intro w hSw;(try dsimp only at hSw);go_simp <;> with_reducible rfl)
 simp only[List.getElem_toArray,List.getElem_cons_zero,List.getElem_cons_succ,Act.put,List.setIfInBounds_toArray,List.set_cons_zero,List.set_cons_succ]
 refine wpAnyH_take (i:=4) (v:=?_) rfl (by kernel_rfl) (by kernel_rfl) (by kernel_rfl) (fun _ _ _ h=>h) (Or.inl ⟨by rfl,?_⟩) (by assumption) ?_
 rotate_left
 ·(intro w hSw;(try dsimp only at hSw);go_simp <;> with_reducible rfl)
 simp only[List.getElem_toArray,List.getElem_cons_zero,List.getElem_cons_succ,Act.put,List.setIfInBounds_toArray,List.set_cons_zero,List.set_cons_succ]
 refine wpAnyH_take (i:=5) (v:=?_) rfl (by kernel_rfl) (by kernel_rfl) (by kernel_rfl) (fun _ _ _ h=>h) (Or.inl ⟨by rfl,?_⟩) (by assumption) ?_
 rotate_left
 ·(intro w hSw;(try dsimp only at hSw);go_simp <;> with_reducible rfl)
 simp only[List.getElem_toArray,List.getElem_cons_zero,List.getElem_cons_succ,Act.put,List.setIfInBounds_toArray,List.set_cons_zero,List.set_cons_succ]
 refine wpAnyH_take (i:=6) (v:=?_) rfl (by kernel_rfl) (by kernel_rfl) (by kernel_rfl) (fun _ _ _ h=>h) (Or.inl ⟨by rfl,?_⟩) (by assumption) ?_
 rotate_left
 ·(intro w hSw;(try dsimp only at hSw);go_simp <;> with_reducible rfl)
 simp only[List.getElem_toArray,List.getElem_cons_zero,List.getElem_cons_succ,Act.put,List.setIfInBounds_toArray,List.set_cons_zero,List.set_cons_succ]
 refine wpAnyH_take (i:=7) (v:=?_) rfl (by kernel_rfl) (by kernel_rfl) (by kernel_rfl) (fun _ _ _ h=>h) (Or.inl ⟨by rfl,?_⟩) (by assumption) ?_
 rotate_left
 ·(intro w hSw;(try dsimp only at hSw);go_simp <;> with_reducible rfl)
 simp only[List.getElem_toArray,List.getElem_cons_zero,List.getElem_cons_succ,Act.put,List.setIfInBounds_toArray,List.set_cons_zero,List.set_cons_succ]
 refine wpAnyH_take (i:=8) (v:=?_) rfl (by kernel_rfl) (by kernel_rfl) (by kernel_rfl) (fun _ _ _ h=>h) (Or.inl ⟨by rfl,?_⟩) (by assumption) ?_
 rotate_left
 ·(intro w hSw;(try dsimp only at hSw);go_simp <;> with_reducible rfl)
 simp only[List.getElem_toArray,List.getElem_cons_zero,List.getElem_cons_succ,Act.put,List.setIfInBounds_toArray,List.set_cons_zero,List.set_cons_succ]
 refine wpAnyH_take (i:=9) (v:=?_) rfl (by kernel_rfl) (by kernel_rfl) (by kernel_rfl) (fun _ _ _ h=>h) (Or.inl ⟨by rfl,?_⟩) (by assumption) ?_
 rotate_left
 ·(intro w hSw;(try dsimp only at hSw);go_simp <;> with_reducible rfl)
 simp only[List.getElem_toArray,List.getElem_cons_zero,List.getElem_cons_succ,Act.put,List.setIfInBounds_toArray,List.set_cons_zero,List.set_cons_succ]
 refine wpAnyH_take (i:=10) (v:=?_) rfl (by kernel_rfl) (by kernel_rfl) (by kernel_rfl) (fun _ _ _ h=>h) (Or.inl ⟨by rfl,?_⟩) (by assumption) ?_
 rotate_left
 ·(intro w hSw;(try dsimp only at hSw);go_simp <;> with_reducible rfl)
 simp only[List.getElem_toArray,List.getElem_cons_zero,List.getElem_cons_succ,Act.put,List.setIfInBounds_toArray,List.set_cons_zero,List.set_cons_succ]
 refine wpAnyH_take (i:=11) (v:=?_) rfl (by kernel_rfl) (by kernel_rfl) (by kernel_rfl) (fun _ _ _ h=>h) (Or.inl ⟨by rfl,?_⟩) (by assumption) ?_
 rotate_left
 ·(intro w hSw;(try dsimp only at hSw);go_simp <;> with_reducible rfl)
 simp only[List.getElem_toArray,List.getElem_cons_zero,List.getElem_cons_succ,Act.put,List.setIfInBounds_toArray,List.set_cons_zero,List.set_cons_succ]
 refine wpAnyH_take (i:=12) (v:=?_) rfl (by kernel_rfl) (by kernel_rfl) (by kernel_rfl) (fun _ _ _ h=>h) (Or.inl ⟨by rfl,?_⟩) (by assumption) ?_
 rotate_left
 ·(intro w hSw;(try dsimp only at hSw);go_simp <;> with_reducible rfl)
 simp only[List.getElem_toArray,List.getElem_cons_zero,List.getElem_cons_succ,Act.put,List.setIfInBounds_toArray,List.set_cons_zero,List.set_cons_succ]
 refine wpAnyH_ready (rs:=[13]) (by kernel_rfl) (by simp) ?_
 refine AllReadyH.cons rfl (fun K hK=>?_) ?_
 rotate_left
 ·exact AllReadyH.nil
 go_simp
 go_at_call 27
 refine (CC _).mono ?_
 rintro e w8 ⟨rfl,rfl⟩
 refine hK.out _ _ ?_ (fun hHeld=>?_)
 ·exact hHeld
 clear hK K
 refine wpAnyH_take (i:=14) (v:=?_) rfl (by kernel_rfl) (by kernel_rfl) (by kernel_rfl) (fun _ _ _ h=>h) (Or.inl ⟨by rfl,?_⟩) (by assumption) ?_
 rotate_left
 ·(intro w hSw;(try dsimp only at hSw);go_simp <;> with_reducible rfl)
 simp only[List.getElem_toArray,List.getElem_cons_zero,List.getElem_cons_succ,Act.put,List.setIfInBounds_toArray,List.set_cons_zero,List.set_cons_succ]
 refine wpAnyH_done (by kernel_rfl) ?_ _
 refine NoPanic.normal ?_
 clear hHeld CC hS0
 obtain ⟨wH,hwH⟩:∃ x,x=wG.drew:=⟨_,rfl⟩
 have bH:Below wG.heap.size wG wH:=by rw[hwH];exact below_drewN (Below.refl _ _) 1
 rw[←hwH]
 clear hwH
 have szH:=bH.size
 have NkH:IsN (Lo wH.heap.size) wH xk [.int .i64 kc0,.int .i64 kc1,.int .i64 kc2,.int .i64 kc3,.string kc4,.string kc5,.string kc6,.slice kca kcb kcc,.slice kcd kce kcf,.slice kcg kch kci,.bool kc7,.string kc8]:=IsN.frame (fun b hb=>⟨by have:=hlt1 b hb;show b<wH.heap.size;omega,(bH.block b (by have:=hlt1 b hb;omega)).trans ((bG.block b (by have:=hlt1 b hb;omega)).trans (sF b (by have:=hlt1 b hb;omega) (by have:=hR1 b hb;omega)))⟩) xk _ HT.out.2.2.2.1
 have CH:Calls Tryz.prog 28 #[.agg #[.int .i64 kc0,.int .i64 kc1,.int .i64 kc2,.int .i64 kc3,.string kc4,.string kc5,.string kc6,.slice kca kcb kcc,.slice kcd kce kcf,.slice kcg kch kci,.bool kc7,.string kc8]] wH fun e w'=>e=.returned (.int .i64 (xk.htP:Int))∧Below wH.heap.size wH w':=flHeight_is xk [.int .i64 kc0,.int .i64 kc1,.int .i64 kc2,.int .i64 kc3,.string kc4,.string kc5,.string kc6,.slice kca kcb kcc,.slice kcd kce kcf,.slice kcg kch kci,.bool kc7,.string kc8] wH hht NkH
 have rnH:=(bH.block nb (by omega)).trans ((bG.block nb (by omega)).trans rnF)
 have qnH:∀ j,wH.cell? ⟨nb,j,none⟩=(#[.int .i64 kc0,.int .i64 kc1,.int .i64 kc2,.int .i64 kc3,.string kc4,.string kc5,.string kc6,.slice kca kcb kcc,.slice kcd kce kcf,.slice kcg kch kci,.bool kc7,.string kc8]:Array Value)[j]?:=fun j=>cell_of_row wH _ j _ _ _ rnH
 go_wp2_with fail
 refine CH.mono ?_
 rintro e wI ⟨rfl,bI⟩
 clear CH qnH NkH
 have szI:=bI.size
 have AI:=(AG.below bH AG.lt).below bI (by have:=AG.lt;omega)
 have FI:=(bI.block fb (by omega)).trans ((bH.block fb (by omega)).trans FG)
 have rnI:=(bI.block nb (by omega)).trans rnH
 have rkI:=(bI.block wC.heap.size (by omega)).trans ((bH.block wC.heap.size (by omega)).trans ((bG.block wC.heap.size (by omega)).trans rF))
 have KI:Keep (Lv w.heap.size g [lv,blkV fb]) w wI:=((HT.out.2.1.trans (Keep.of bG (fun k hk=>hk)) (fun k hk=>by have:=hk.1;omega)).trans (Keep.of bH (fun k hk=>hk)) (fun k hk=>by have:=hk.1;omega)).trans (Keep.of bI (fun k hk=>hk)) (fun k hk=>by have:=hk.1;omega)
 have RSI:=((HT.out.1.keep (fun k hlt _=>bG.block k hlt)).keep (fun k hlt _=>bH.block k hlt)).keep (fun k hlt _=>bI.block k hlt)
 have CV:=flValue_is w0 hEv g hg0 s hs n col hcol (deep+1) (by omega) rS vC kc0 kc1 kc2 kc3 kc4 kc5 kc6 kca kcb kcc kcd kce kcf kcg kch kci kc7 kc8 oV wI (RSI.rs wfS) (hB.next hg0 KI (one_mem NC)) xk hnear hoV
 rw[show ((deep+1:Nat):Int)=(deep:Int)+1 by omega] at CV
 have qnI:∀ j,wI.cell? ⟨nb,j,none⟩=(#[.int .i64 kc0,.int .i64 kc1,.int .i64 kc2,.int .i64 kc3,.string kc4,.string kc5,.string kc6,.slice kca kcb kcc,.slice kcd kce kcf,.slice kcg kch kci,.bool kc7,.string kc8]:Array Value)[j]?:=fun j=>cell_of_row wI _ j _ _ _ rnI
 obtain ⟨kb,hkb⟩:∃ kb,kb=wC.heap.size:=⟨_,rfl⟩
 rw[←hkb] at rkI FI ⊢
 have hkb1:=Nat.le_of_eq hkb
 have hkb2:=Nat.le_of_eq hkb.symm
 clear hkb AG FG FF rF
 have HKI:=Lib.hid KI
 clear KI
 go_upto_region 17 with (go_at_call 29;refine CV.mono ?_;rintro e wD ⟨cs2,c2,rfl,x2,r2,v2,R2,M2⟩;have rkD:=(M2.keep.block kb ⟨by omega,by omega,fun u hu e=>by rw[List.mem_singleton] at hu;subst hu;have:=hownC kb e;omega⟩).trans rkI;have FD:=(M2.keep.block fb ⟨by omega,hfg,fun u hu e=>by rw[List.mem_singleton] at hu;subst hu;exact hvf fb e rfl⟩).trans FI;obtain ⟨y0,y1,y2,y3,y4,y5,y6,ya,yb,yc,yd,ye,yf,yg,yh,yi,y7,y8,rfl⟩:=M2.node.cells12;have HM2:=Lib.hid M2;clear M2)
 obtain ⟨wE,hwE⟩:∃ wE,wE=wD.alloc (.cells #[.int .i64 y0,.int .i64 y1,.int .i64 y2,.int .i64 y3,.string y4,.string y5,.string y6,.slice ya yb yc,.slice yd ye yf,.slice yg yh yi,.bool y7,.string y8] 30):=⟨_,rfl⟩
 have szD:=HM2.out.keep.size
 have bE:Below wD.heap.size wD wE:=by rw[hwE];exact (Below.refl _ _).alloc (Nat.le_refl _) _
 have rvE:wE.heap[wD.heap.size]?=some (.cells #[.int .i64 y0,.int .i64 y1,.int .i64 y2,.int .i64 y3,.string y4,.string y5,.string y6,.slice ya yb yc,.slice yd ye yf,.slice yg yh yi,.bool y7,.string y8] 30 (0,0)):=by rw[hwE];exact heap_alloc_new wD _
 have zE:wE.heap.size=wD.heap.size+1:=by rw[hwE];simp
 rw[←hwE]
 clear hwE
 have rkE:=(bE.block kb (by omega)).trans rkD
 have FE:=(bE.block fb (by omega)).trans FD
 obtain ⟨tv,htv⟩:∃ tv,tv=wD.heap.size:=⟨_,rfl⟩
 rw[←htv] at rvE zE ⊢
 have htv1:=Nat.le_of_eq htv
 have htv2:=Nat.le_of_eq htv.symm
 clear htv
 have zE1:=Nat.le_of_eq zE
 have zE2:=Nat.le_of_eq zE.symm
 clear zE
 have hkA:∀ (W:World) (ob:Obj),W.heap=wE.heap→∀ j:Nat,(W.alloc ob).cell? ⟨kb,j,none⟩=([.int .i64 kc0,.int .i64 kc1,.int .i64 kc2,.int .i64 kc3,.string kc4,.string kc5,.string kc6,.slice kca kcb kcc,.slice kcd kce kcf,.slice kcg kch kci,.bool kc7,.string kc8]:List Value)[j]?:=fun W ob e j=>by rw[←List.getElem?_toArray];exact cell_of_row _ _ j _ _ _ ((heap_alloc_old W ob (by rw[e];omega)).trans (by rw[e];exact rkE))
 have qfE:∀ j,wE.cell? ⟨fb,j,none⟩=(#[.int .i64 (p:Int),lv,.slice (some ⟨kb,0,none⟩) 1 1]:Array Value)[j]?:=fun j=>cell_of_row wE _ j _ _ _ FE
 have qvE:∀ j,wE.cell? ⟨tv,j,none⟩=(#[.int .i64 y0,.int .i64 y1,.int .i64 y2,.int .i64 y3,.string y4,.string y5,.string y6,.slice ya yb yc,.slice yd ye yf,.slice yg yh yi,.bool y7,.string y8]:Array Value)[j]?:=fun j=>cell_of_row wE _ j _ _ _ rvE
 have qfD:∀ (ob:Obj) (j:Nat),(wE.drew.alloc ob).cell? ⟨fb,j,none⟩=(#[.int .i64 (p:Int),lv,.slice (some ⟨kb,0,none⟩) 1 1]:Array Value)[j]?:=fun ob j=>cell_of_row _ _ j _ _ _ ((heap_alloc_old wE.drew ob (show fb<wE.heap.size by omega)).trans FE)
 have qvD:∀ (ob:Obj) (j:Nat),(wE.drew.alloc ob).cell? ⟨tv,j,none⟩=(#[.int .i64 y0,.int .i64 y1,.int .i64 y2,.int .i64 y3,.string y4,.string y5,.string y6,.slice ya yb yc,.slice yd ye yf,.slice yg yh yi,.bool y7,.string y8]:Array Value)[j]?:=fun ob j=>cell_of_row _ _ j _ _ _ ((heap_alloc_old wE.drew ob (show tv<wE.heap.size by omega)).trans rvE)
 have qfX:∀ (ob:Obj) (j:Nat),(wE.alloc ob).drew.cell? ⟨fb,j,none⟩=(#[.int .i64 (p:Int),lv,.slice (some ⟨kb,0,none⟩) 1 1]:Array Value)[j]?:=fun ob j=>cell_of_row _ _ j _ _ _ ((heap_alloc_old wE ob (show fb<wE.heap.size by omega)).trans FE)
 have qvX:∀ (ob:Obj) (j:Nat),(wE.alloc ob).drew.cell? ⟨tv,j,none⟩=(#[.int .i64 y0,.int .i64 y1,.int .i64 y2,.int .i64 y3,.string y4,.string y5,.string y6,.slice ya yb yc,.slice yd ye yf,.slice yg yh yi,.bool y7,.string y8]:Array Value)[j]?:=fun ob j=>cell_of_row _ _ j _ _ _ ((heap_alloc_old wE ob (show tv<wE.heap.size by omega)).trans rvE)
 have ozz:∀ u∈([.int .i64 0,.int .i64 0,.int .i64 0,.int .i64 0,.string ⟨#[]⟩,.string ⟨#[]⟩,.string ⟨#[]⟩,.slice none 0 0,.slice none 0 0,.slice none 0 0,.bool false,.string ⟨#[]⟩]:List Value),u.oneCell'=true:=by
  intro u hu
  simp only[List.mem_cons,List.not_mem_nil,or_false] at hu
  rcases hu with rfl|rfl|rfl|rfl|rfl|rfl|rfl|rfl|rfl|rfl|rfl|rfl <;> rfl
 go_region_law (first
  | (refine step_appendN rfl _ _ rfl kb _ [.int .i64 kc0,.int .i64 kc1,.int .i64 kc2,.int .i64 kc3,.string kc4,.string kc5,.string kc6,.slice kca kcb kcc,.slice kcd kce kcf,.slice kcg kch kci,.bool kc7,.string kc8] [.int .i64 0,.int .i64 0,.int .i64 0,.int .i64 0,.string ⟨#[]⟩,.string ⟨#[]⟩,.string ⟨#[]⟩,.slice none 0 0,.slice none 0 0,.slice none 0 0,.bool false,.string ⟨#[]⟩] rfl rfl rfl rfl (fun j=>hkA _ _ rfl j) (fun j=>(World.cell?_alloc_new _ _ _ j).trans (by rw[←List.getElem?_toArray])) ozz ?_;intro cap wN hc1 hc2 bN zN tN;obtain ⟨arr,rN,sN,tkN,fN,hz⟩:=nodes_two (b:=wE.heap.size+1) (by simp) rfl rfl tN;have cz0:wN.cell? ⟨wE.heap.size+1,12,none⟩=some (.int .i64 0):=hz 0 (by decide);have cz1:wN.cell? ⟨wE.heap.size+1,13,none⟩=some (.int .i64 0):=hz 1 (by decide);have cz2:wN.cell? ⟨wE.heap.size+1,14,none⟩=some (.int .i64 0):=hz 2 (by decide);have cz3:wN.cell? ⟨wE.heap.size+1,15,none⟩=some (.int .i64 0):=hz 3 (by decide);have cz4:wN.cell? ⟨wE.heap.size+1,16,none⟩=some (.string ⟨#[]⟩):=hz 4 (by decide);have cz5:wN.cell? ⟨wE.heap.size+1,17,none⟩=some (.string ⟨#[]⟩):=hz 5 (by decide);have cz6:wN.cell? ⟨wE.heap.size+1,18,none⟩=some (.string ⟨#[]⟩):=hz 6 (by decide);have cz7:wN.cell? ⟨wE.heap.size+1,19,none⟩=some (.slice none 0 0):=hz 7 (by decide);have cz8:wN.cell? ⟨wE.heap.size+1,20,none⟩=some (.slice none 0 0):=hz 8 (by decide);have cz9:wN.cell? ⟨wE.heap.size+1,21,none⟩=some (.slice none 0 0):=hz 9 (by decide);have cz10:wN.cell? ⟨wE.heap.size+1,22,none⟩=some (.bool false):=hz 10 (by decide);have cz11:wN.cell? ⟨wE.heap.size+1,23,none⟩=some (.string ⟨#[]⟩):=hz 11 (by decide);have FN:=(bN.block fb (by simp;omega)).trans ((heap_alloc_old _ _ (show fb<wE.heap.size by omega)).trans FE);have qN:∀ j,wN.cell? ⟨fb,j,none⟩=(#[.int .i64 (p:Int),lv,.slice (some ⟨kb,0,none⟩) 1 1]:Array Value)[j]?:=fun j=>cell_of_row wN _ j _ _ _ FN;have zfN:wN.frozen? ⟨fb,2,none⟩=false:=frozen_of_row wN _ 2 _ _ FN;have sN2:∀ k,k<wE.heap.size→wN.heap[k]?=wE.heap[k]?:=fun k hk=>(bN.block k (by simp;omega)).trans (heap_alloc_old _ _ hk);have oN:wN.os=wE.os∧wN.tape=wE.tape∧wN.output=wE.output:=⟨bN.os,bN.tape,bN.output⟩;have zN2:wE.heap.size+1<wN.heap.size:=(Array.getElem?_eq_some_iff.1 rN).1;clear hz tN bN zN))
 all_goals first
  | (obtain ⟨wF,hwF⟩:∃ wF,wF=((((((((((((wN.setCell ⟨wE.heap.size+1,12,none⟩ (.int .i64 y0)).setCell ⟨wE.heap.size+1,13,none⟩ (.int .i64 y1)).setCell ⟨wE.heap.size+1,14,none⟩ (.int .i64 y2)).setCell ⟨wE.heap.size+1,15,none⟩ (.int .i64 y3)).setCell ⟨wE.heap.size+1,16,none⟩ (.string y4)).setCell ⟨wE.heap.size+1,17,none⟩ (.string y5)).setCell ⟨wE.heap.size+1,18,none⟩ (.string y6)).setCell ⟨wE.heap.size+1,19,none⟩ (.slice ya yb yc)).setCell ⟨wE.heap.size+1,20,none⟩ (.slice yd ye yf)).setCell ⟨wE.heap.size+1,21,none⟩ (.slice yg yh yi)).setCell ⟨wE.heap.size+1,22,none⟩ (.bool y7)).setCell ⟨wE.heap.size+1,23,none⟩ (.string y8)).setCell ⟨fb,2,none⟩ (.slice (some ⟨wE.heap.size+1,0,none⟩) 2 cap):=⟨_,rfl⟩;rw[←hwF];have TW:=two_A wN (wE.heap.size+1) fb (by omega) arr 30 55 _ _ _ _ _ _ _ _ _ _ _ _ _ _ _ _ rN sN FN wF hwF;clear hwF)
  | (obtain ⟨wF,hwF⟩:∃ wF,wF=(((((((((((((wN.setCell ⟨fb,2,none⟩ (.slice (some ⟨wE.heap.size+1,0,none⟩) 2 cap)).setCell ⟨wE.heap.size+1,12,none⟩ (.int .i64 y0)).setCell ⟨wE.heap.size+1,13,none⟩ (.int .i64 y1)).setCell ⟨wE.heap.size+1,14,none⟩ (.int .i64 y2)).setCell ⟨wE.heap.size+1,15,none⟩ (.int .i64 y3)).setCell ⟨wE.heap.size+1,16,none⟩ (.string y4)).setCell ⟨wE.heap.size+1,17,none⟩ (.string y5)).setCell ⟨wE.heap.size+1,18,none⟩ (.string y6)).setCell ⟨wE.heap.size+1,19,none⟩ (.slice ya yb yc)).setCell ⟨wE.heap.size+1,20,none⟩ (.slice yd ye yf)).setCell ⟨wE.heap.size+1,21,none⟩ (.slice yg yh yi)).setCell ⟨wE.heap.size+1,22,none⟩ (.bool y7)).setCell ⟨wE.heap.size+1,23,none⟩ (.string y8)):=⟨_,rfl⟩;rw[←hwF];have TW:=two_B wN (wE.heap.size+1) fb (by omega) arr 30 55 _ _ _ _ _ _ _ _ _ _ _ _ _ _ _ _ rN sN FN wF hwF;clear hwF)
 all_goals have TW:=Lib.hid TW
 all_goals clear FN qN zfN rN fN
 all_goals clear cz0 cz1 cz2 cz3 cz4 cz5 cz6 cz7 cz8 cz9 cz10 cz11
 all_goals go_wp2
 all_goals go_ret
 all_goals
  obtain ⟨arr2,rF2,sF2,tkF,FF,far0,zF,oF⟩:=TW.out
  have M2:=HM2.out
  obtain ⟨RSF,KF0,LF0,Nk,Lc⟩:=HT.out
  have hRk:∀ k,Rk k→k<wI.heap.size∧w.heap.size≤k∧k≠g∧k≠fb∧vC.ownBlock≠some k∧lv.ownBlock≠some k∧k≠kb:=fun k hk=>by
   have h1:=hR1 k hk
   have h2:=hlt1 k hk
   refine ⟨by omega,by omega,by omega,by omega,fun e=>?_,fun e=>by have:=hownL k e;omega,by omega⟩
   rcases (hnC k e).2.2 with h|h
   ·omega
   ·exact (hne1 k hk).2 h
  have far:∀ k,k<wD.heap.size→k≠fb→wF.heap[k]?=wD.heap[k]?:=fun k h1 h2=>(far0 k (by omega) h2).trans ((sN2 k (by omega)).trans (bE.block k h1))
  have hnew2:∀ k,v2.ownBlock=some k→wI.heap.size≤k∨vC.ownBlock=some k:=fun k hk=>(by rcases M2.new k hk with h|⟨u,hu,h⟩;exact .inl h;rw[List.mem_singleton] at hu;subst hu;exact .inr h)
  have hR2:∀ k,R2 k→wI.heap.size≤k∨vC.ownBlock=some k:=fun k hk=>(by rcases M2.own k hk with h|⟨u,hu,h⟩;exact .inl h;rw[List.mem_singleton] at hu;subst hu;exact .inr h)
  have v2f:∀ k,v2.ownBlock=some k→k≠fb:=fun k hk=>(by rcases hnew2 k hk with h|h;omega;exact fun e=>hvf k h e)
  have hCl:∀ k,lv.ownBlock=some k→vC.ownBlock≠some k:=fun k hk e=>by have:=(hnC k e).1;have:=hownL k hk;omega
  have RF:RSb g s n r2 v2 wF:=M2.st.keep (fun k hlt hk=>far k hlt (by rcases hk with rfl|hk;exact fun e=>hfg e.symm;exact v2f k hk))
  have LI:=((LF0.below bG (Nat.le_refl _)).below bH (Nat.le_refl _)).below bI (Nat.le_refl _)
  have LF:HasV 2 wF lv lead.length (comV lead):=LI.keep (fun k hk hlt=>(far k (by omega) (fun e=>hlf (by rw[hk,e]))).trans (M2.keep.block k ⟨hlt,fun e=>hlg (by rw[hk,e]),fun u hu e=>by rw[List.mem_singleton] at hu;subst hu;exact hCl k hk e⟩))
  have KF:Keep (Lv w.heap.size g [lv,blkV fb]) w wF:=(HKI.out.trans M2.keep (Lv.step HKI.out.size (one_mem NC))).trans (Q:=fun k=>k<w.heap.size∧k≠fb) ⟨oF.1.trans (oN.1.trans bE.os),oF.2.1.trans (oN.2.1.trans bE.tape),oF.2.2.trans (oN.2.2.trans bE.output),by omega,fun k hk=>far k (by have:=hk.1;have:=HKI.out.size;omega) hk.2⟩ (fun k hk=>⟨hk.1,fun e=>hk.2.2 (blkV fb) (by simp) (by rw[e];rfl)⟩)
  have NF:NewV w.heap.size [lv,blkV fb] v2:=M2.new.trans HKI.out.size (one_mem NC)
  have N2:IsN R2 wF x2 [.int .i64 y0,.int .i64 y1,.int .i64 y2,.int .i64 y3,.string y4,.string y5,.string y6,.slice ya yb yc,.slice yd ye yf,.slice yg yh yi,.bool y7,.string y8]:=IsN.frame (fun b hb=>⟨hb,far b (M2.lt b hb) (by rcases hR2 b hb with h|h;omega;exact fun e=>hvf b h e)⟩) x2 _ M2.node
  have N1:IsN Rk wF xk [.int .i64 kc0,.int .i64 kc1,.int .i64 kc2,.int .i64 kc3,.string kc4,.string kc5,.string kc6,.slice kca kcb kcc,.slice kcd kce kcf,.slice kcg kch kci,.bool kc7,.string kc8]:=IsN.frame (fun b hb=>⟨hb,by
   obtain ⟨q1,q2,q3,q4,q5,q6,q7⟩:=hRk b hb
   have h2:=hlt1 b hb
   have h3:=hR1 b hb
   exact (far b (by omega) q4).trans ((M2.keep.block b ⟨q1,q3,fun u hu e=>by rw[List.mem_singleton] at hu;subst hu;exact q5 e⟩).trans ((bI.block b (by omega)).trans ((bH.block b (by omega)).trans ((bG.block b (by omega)).trans (sF b (by omega) q4)))))⟩) xk _ Nk
  refine ⟨c2,r2,v2,rfl,RF,NF,KF,fun e=>v2f fb e rfl,?_⟩
  have hres:=M2.res
  have hv2o:=M2.st.has.own
  have hKz:=HKI.out.size
  rw[hov]
  cases oV with
  | bad q k=>exact hres
  | ok y=>exact ⟨hres.1,(congrArg Prod.snd hres.2).symm,M2.wf _ rfl,(fun z hz=>by simp at hz;subst hz;exact hxl),by
    have hy:y.1=x2:=congrArg Prod.fst hres.2
    show ∃ lv' kb' m cap arr R,FndM g fb (p:Int) w wF [lv,blkV fb] v2 lead [xk,y.1] lv' kb' m cap arr R
    rw[hy]
    exact ⟨lv,wE.heap.size+1,2,cap,arr2,fun k=>Rk k∨R2 k,⟨FF,LF,rF2,⟨rfl,hc1,hc2,by omega⟩,by
     show IsKL _ wF (arr2.toList.take 24) _
     rw[tkF,tkN]
     exact IsKL.two (N1.frame' (fun b hb=>.inl hb)) (N2.frame' (fun b hb=>.inr hb)),⟨by omega,fun e=>by have:=hv2o _ e;omega,fun e=>by have:=hownL _ e;omega⟩,⟨NewV.self (by simp),hlg,hlf,fun k hk e=>by rcases hnew2 k e with h|h;have:=hownL k hk;omega;exact hCl k hk h⟩,fun k hk=>by
      rcases hk with hk|hk
      ·obtain ⟨q1,q2,q3,q4,q5,q6,q7⟩:=hRk k hk
       exact ⟨by omega,q2,by omega,fun e=>by rcases hnew2 k e with h|h;omega;exact q5 h,q6⟩
      ·have q1:=M2.lt k hk
       refine ⟨by omega,?_,by omega,(M2.ne k hk).2,fun e=>?_⟩
       ·rcases hR2 k hk with h|h
        ·omega
        ·have:=(hnC k h).1;omega
       ·rcases hR2 k hk with h|h
        ·have:=hownL k e;omega
        ·exact hCl k e h⟩⟩⟩
theorem flItem_is (w0:World) (hEv:Env w0) (g:Nat) (hg0:w0.heap.size≤g) (s:ByteArray) (hs:s.size≤10000) (n:Int) (col:Nat→Nat→Rd (NT × Nat)→Prop) (hcol:CollC w0 g s n col) (hc:GoesC s col) (hh:HtC s col) (deep:Nat) (hd:deep≤80) (p fin fb:Nat) (lv:Value) (lead:Coms) (o:Rd (Coms × List NT × Rst)) (w:World) (h:RS g s n ⟨[],false,fin,p⟩ (.slice none 0 0) w) (hF:w.heap[fb]?=some (.cells #[.int .i64 (p:Int),lv,.slice none 0 0] 55 (0,0))) (hL:HasV 2 w lv lead.length (comV lead)) (hlg:lv.ownBlock≠some g) (hlf:lv.ownBlock≠some fb) (hfg:fb≠g) (hll:lead.length≤20000) (hB:Bs w0 w [lv,blkV fb]) (ho:itemP s n col lead deep p o) :
  Calls Tryz.prog 15 #[.pointer (some ⟨g,0,none⟩),.pointer (some ⟨fb,0,none⟩),.int .i64 (deep:Int)] w fun e w'=>FldPost g s n fb (p:Int) w [lv,blkV fb] o e w':=by
 have htop:=h.ok.top
 unfold itemP at ho
 have fld:∀ oV xk,andR (valueP s n col xk (deep+1) oV) (fun v o=>o=.ok (lead,[xk,v.1],v.2)) o→∃ oW,valueP s n col xk (deep+1) oV oW∧o=fldO lead xk oW:=fun oV xk h=>by
  rcases h with ⟨q,c,h1,rfl⟩|⟨v,h1,rfl⟩
  ·exact ⟨_,h1,rfl⟩
  ·exact ⟨_,h1,rfl⟩
 by_cases hq:queryB s p=true
 ·rw[if_pos (Or.inl hq)] at ho
  by_cases hdk:40≤deep
  ·rw[if_pos hdk] at ho
   exact flItem_q_deep w0 hEv g hg0 s hs n col hcol deep hd p fin fb lv lead o w h hF hL hlg hlf hfg hll hB hq (by omega) ho
  ·rw[if_neg hdk] at ho
   exact flItem_q_field w0 hEv g hg0 s hs n col hcol deep hd p fin fb lv lead o w h hF hL hlg hlf hfg hll hB hq (by omega) ho
 ·have hq0:queryB s p=false:=Bool.eq_false_iff.2 hq
  by_cases hsg:signB s p false=true
  ·rw[if_pos (Or.inr hsg)] at ho
   by_cases hdk:40≤deep
   ·rw[if_pos hdk] at ho
    exact flItem_c_deep w0 hEv g hg0 s hs n col hcol deep hd p fin fb lv lead o w h hF hL hlg hlf hfg hll hB hq0 hsg (by omega) ho
   ·rw[if_neg hdk] at ho
    exact flItem_c_field w0 hEv g hg0 s hs n col hcol deep hd p fin fb lv lead o w h hF hL hlg hlf hfg hll hB hq0 hsg (by omega) ho
  ·have hsg0:signB s p false=false:=Bool.eq_false_iff.2 hsg
   rw[if_neg (fun h=>by rcases h with h|h;exact hq h;exact hsg h)] at ho
   rcases ho with ⟨q,c,h1,rfl⟩|⟨⟨xk,rK⟩,h1,h2⟩
   ·exact flItem_nbad w0 hEv g hg0 s hs n col hcol deep hd p fin fb lv lead _ w h hF hL hlg hlf hfg hll hB hq0 hsg0 q c h1 rfl
   ·rcases h2 with ⟨q,c,h3,rfl⟩|⟨b1,h3,h4⟩
    ·exact flItem_sbad w0 hEv g hg0 s hs n col hcol deep hd p fin fb lv lead _ w h hF hL hlg hlf hfg hll hB hq0 hsg0 xk rK h1 q c h3 rfl
    ·have hn:=nodeP_far hc hh h1 htop
     have hk:=skip_far h3 hn.2.1
     have hn1:p<rK.at':=hn.1
     have hk1:rK.at'≤b1.at':=hk.1
     have hht:xk.htP≤1000:=by
      rcases hn.2.2 with h|h
      ·rw[show xk.htP=0 from h];omega
      ·have h':xk.htP+deep≤40:=h
       omega
     by_cases hsn:signB s b1.at' (nearN xk)=true
     ·rw[if_pos hsn] at h4
      by_cases hrow:sameRow s p b1.at'=true
      ·rw[if_pos hrow] at h4
       by_cases hdk:40≤deep+xk.htP
       ·rw[if_pos hdk] at h4
        exact flItem_deep w0 hEv g hg0 s hs n col hcol deep hd p fin fb lv lead o w h hF hL hlg hlf hfg hll hB hq0 hsg0 xk rK h1 b1 h3 hsn (by omega) hrow hht (by omega) h4
       ·rw[if_neg hdk] at h4
        obtain ⟨oW,h5,h6⟩:=fld _ _ h4
        exact flItem_two w0 hEv g hg0 s hs n col hcol deep hd p fin fb lv lead o w h hF hL hlg hlf hfg hll hB hq0 hsg0 xk rK h1 b1 h3 hsn (by omega) hrow hht (by omega) oW h5 h6
      ·rw[if_neg hrow] at h4
       exact flItem_row w0 hEv g hg0 s hs n col hcol deep hd p fin fb lv lead o w h hF hL hlg hlf hfg hll hB hq0 hsg0 xk rK h1 b1 h3 hsn (by omega) (Bool.eq_false_iff.2 hrow) h4
     ·rw[if_neg hsn] at h4
      exact flItem_one w0 hEv g hg0 s hs n col hcol deep hd p fin fb lv lead o w h hF hL hlg hlf hfg hll hB hq0 hsg0 xk rK h1 b1 h3 (Bool.eq_false_iff.2 hsn) h4
end Go.Proofs.YtncngeamdechmaaGreatDoor
