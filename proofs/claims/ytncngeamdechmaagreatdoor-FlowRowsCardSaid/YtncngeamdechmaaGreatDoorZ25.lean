/- Parts of the proof, put together from smaller texts (blanks that Lean does not want are struck). Conditions: those that each theorem writes out. -/
import Derived.Test.YtncngeamdechmaaGreatDoorZ08
import Derived.Test.YtncngeamdechmaaGreatDoorZ12
import Derived.Test.YtncngeamdechmaaGreatDoorZ13
import Derived.Test.YtncngeamdechmaaGreatDoorZ14
import Derived.Test.YtncngeamdechmaaGreatDoorZ15
import Derived.Test.YtncngeamdechmaaGreatDoorZ24
namespace Go.Proofs.YtncngeamdechmaaGreatDoor
open Go.RowKit
def ResN (o:Rd (NT × Rst)) (c:Int) (x:NT) (r:Rst):Prop:=match o with
 | .ok y=>c=0∧y=(x,r)
 | .bad q k=>c=k∧c≠0∧r.at'=q
structure RSb (g:Nat) (s:ByteArray) (n:Int) (r:Rst) (v:Value) (w:World):Prop where
 cells:FlAt g s n (r.at':Int) (r.fin:Int) v r.same w
 has:HasV 2 w v r.l.length (comV r.l)
 apart:v.ownBlock≠some g
theorem RS.b {g:Nat} {s:ByteArray} {n:Int} {r:Rst} {v:Value} {w:World} (h:RS g s n r v w):RSb g s n r v w:=⟨h.cells,h.has,h.apart⟩
theorem RSb.rs {g:Nat} {s:ByteArray} {n:Int} {r:Rst} {v:Value} {w:World} (h:RSb g s n r v w) (hw:WFr s r):RS g s n r v w:=⟨h.cells,h.has,h.apart,hw⟩
theorem RSb.keep {g:Nat} {s:ByteArray} {n:Int} {r:Rst} {v:Value} {w w':World} (h:RSb g s n r v w) (hk:∀ k,k<w.heap.size→(k=g∨v.ownBlock=some k)→w'.heap[k]?=w.heap[k]?):RSb g s n r v w':=
 ⟨(hk g h.cells.lt (.inl rfl)).trans h.cells,h.has.keep fun k e hlt=>hk k hlt (.inr e),h.apart⟩
structure NodeM (g:Nat) (s:ByteArray) (n:Int) (w:World) (vs:List Value) (o:Rd (NT × Rst)) (cs:List Value) (c:Int) (w':World) (x:NT) (r:Rst) (v:Value) (R:Nat→Prop):Prop where
 node:IsN R w' x cs
 st:RSb g s n r v w'
 lt:∀ k,R k→k<w'.heap.size
 ne:∀ k,R k→k≠g∧v.ownBlock≠some k
 own:∀ k,R k→w.heap.size≤k∨∃ u∈vs,u.ownBlock=some k
 new:NewV w.heap.size vs v
 keep:Keep (Lv w.heap.size g vs) w w'
 few:vs=[]→x.h.lead.length≤40000
 res:ResN o c x r
 wf:∀ y,o=.ok y→WFr s r
def NodePost (g:Nat) (s:ByteArray) (n:Int) (w:World) (vs:List Value) (o:Rd (NT × Rst)) (e:Ending) (w':World):Prop:=
 ∃ (cs:List Value) (c:Int),e=.returned (.tuple #[.agg cs.toArray,.int .i64 c])∧∃ x r v R,NodeM g s n w vs o cs c w' x r v R
structure Bs (w0 w:World) (vs:List Value):Prop where
 below:Below w0.heap.size w0 w
 own:∀ u∈vs,∀ k,u.ownBlock=some k→w0.heap.size≤k
theorem Bs.next {w0 w w':World} {g:Nat} {vs vs':List Value} (h:Bs w0 w vs) (hg:w0.heap.size≤g) (hk:Keep (Lv w.heap.size g vs) w w') (hn:∀ u∈vs',NewV w.heap.size vs u):Bs w0 w' vs':=
 ⟨h.below.trans (hk.below fun k hlt=>⟨Nat.lt_of_lt_of_le hlt h.below.size,by omega,fun v hv e=>by have:=h.own v hv k e;omega⟩),
  fun u hu k e=>by
  rcases hn u hu k e with h1|⟨v,hv,h1⟩
  ·exact Nat.le_trans h.below.size h1
  ·exact h.own v hv k h1⟩
theorem NodeM.wfMap {g:Nat} {s:ByteArray} {n:Int} {w w':World} {vs:List Value} {oc:Rd (NT × Rst)} {cs:List Value} {c:Int} {x:NT} {r:Rst} {v:Value} {R:Nat→Prop} (M:NodeM g s n w vs oc cs c w' x r v R) {f:NT × Rst→NT × Rst}:∀ y,rdMap f oc=.ok y→WFr s r:=fun y h=>by
 cases oc with
 | ok z=>exact M.wf z rfl
 | bad q k=>exact absurd (show Rd.bad q k=Rd.ok y from h) (fun e=>by cases e)
def CollC (w0:World) (g:Nat) (s:ByteArray) (n:Int) (col:Nat→Nat→Rd (NT × Nat)→Prop):Prop:=
 ∀ (deep p fin:Nat) (o:Rd (NT × Nat)) (w:World),deep≤100→(isB s p 91=true∨isB s p 123=true)→col deep p o→RS g s n ⟨[],false,fin,p⟩ (.slice none 0 0) w→Bs w0 w [] →
  Calls Tryz.prog 14 #[.pointer (some ⟨g,0,none⟩),.int .i64 (deep:Int)] w fun e w'=>NodePost g s n w [] (rdMap (fun r=>(r.1,fresh r.2)) o) e w'
theorem IsN.cells12 {R:Nat→Prop} {w:World} {x:NT} {cs:List Value} (h:IsN R w x cs):Cells12 cs:=by
 obtain ⟨kv,lv,fv,rfl,⟨ao,cap,rfl,_⟩,⟨ao2,cap2,rfl,_⟩,⟨ao3,cap3,rfl,_⟩⟩:=h.open
 exact ⟨_,_,_,_,_,_,_,_,_,_,_,_,_,_,_,_,_,_,rfl⟩
theorem NodeM.put {g:Nat} {s:ByteArray} {n:Int} {w W w3 w9:World} {vs0 vs:List Value} {o:Rd (NT × Rst)} {cs:List Value} {c:Int} {x:NT} {r:Rst} {v:Value} {R:Nat→Prop} (M:NodeM g s n W vs o cs c w3 x r v R)
  (hb:Keep (Lv w.heap.size g vs0) w W) (hv:∀ u∈vs,NewV w.heap.size vs0 u) (A:Nat→Prop) (hA:∀ k,A k→w.heap.size≤k∧k<W.heap.size∧k≠g∧∀ u∈vs,u.ownBlock≠some k)
  (hs:∀ k,¬ A k→w9.heap[k]?=w3.heap[k]?) (hz:w9.heap.size=w3.heap.size) (ho:w9.os=w3.os∧w9.tape=w3.tape∧w9.output=w3.output) (hf:vs=[]:=by rfl):NodeM g s n w vs0 o cs c w9 x r v R:=by
 have hRA:∀ k,R k→¬ A k:=fun k hk ha=>by
  obtain ⟨_,a2,_,a4⟩:=hA k ha
  rcases M.own k hk with h1|⟨u,hu,h1⟩
  ·omega
  ·exact a4 u hu h1
 have hvA:∀ k,v.ownBlock=some k→¬ A k:=fun k hk ha=>by
  obtain ⟨_,a2,_,a4⟩:=hA k ha
  rcases M.new k hk with h1|⟨u,hu,h1⟩
  ·omega
  ·exact a4 u hu h1
 refine ⟨IsN.frame (fun b hb=>⟨hb,hs b (hRA b hb)⟩) x cs M.node,M.st.keep (fun k _ hk=>hs k ?_),fun k hk=>by rw[hz];exact M.lt k hk,M.ne,fun k hk=>?_,M.new.trans hb.size hv,?_,fun _=>M.few hf,M.res,M.wf⟩
 ·rcases hk with rfl|hk
  ·exact fun ha=>(hA k ha).2.2.1 rfl
  ·exact hvA k hk
 ·rcases M.own k hk with h1|⟨u,hu,h1⟩
  ·exact .inl (Nat.le_trans hb.size h1)
  ·exact hv u hu k h1
 ·exact (hb.trans M.keep (Lv.step hb.size hv)).trans (Q:=fun k=>¬ A k) ⟨ho.1,ho.2.1,ho.2.2,by rw[hz];exact Nat.le_refl _,hs⟩ (fun k hk ha=>absurd hk.1 (Nat.not_lt.2 (hA k ha).1))
theorem row12_other (w:World) (g k:Nat) (hk:¬ k=g) (u0 u1 u2 u3 u4 u5 u6 u7 u8 u9 u10 u11:Value):(((((((((((((w.setCell ⟨g,0,none⟩ u0).setCell ⟨g,1,none⟩ u1).setCell ⟨g,2,none⟩ u2).setCell ⟨g,3,none⟩ u3).setCell ⟨g,4,none⟩ u4).setCell ⟨g,5,none⟩ u5).setCell ⟨g,6,none⟩ u6).setCell ⟨g,7,none⟩ u7).setCell ⟨g,8,none⟩ u8).setCell ⟨g,9,none⟩ u9).setCell ⟨g,10,none⟩ u10).setCell ⟨g,11,none⟩ u11).heap)[k]?=w.heap[k]?:=by
 simp only[heap_setCell_other _ _ _ _ (show k≠(Addr.mk g _ none).block from hk)]
theorem scalar_M {g:Nat} {s:ByteArray} {n:Int} {w w9:World} {kd st p C:Int} {T:List UInt8} {E:Nat} {o:Rd (NT × Rst)} (hK:Keep (Lv w.heap.size g []) w w9) (hR:RS g s n (fresh E) (.slice none 0 0) w9) (ho:o=if C=0 then .ok (.mk ⟨kd,st,p,0,[],[],T,[],[],false,[]⟩ [],fresh E) else .bad E C) :
  NodeM g s n w [] o (headC ⟨kd,st,p,0,[],[],T,[],[],false,[]⟩ (.slice none 0 0) (.slice none 0 0) (.slice none 0 0)) C w9 (.mk ⟨kd,st,p,0,[],[],T,[],[],false,[]⟩ []) (fresh E) (.slice none 0 0) (fun _=>False):=by
 refine ⟨IsN.shut (ComsR.nil _ _) (ComsR.nil _ _) (NodesR.nil _ _),hR.b,fun _ h=>h.elim,fun _ h=>h.elim,fun _ h=>h.elim,NewV.none,hK,fun _=>Nat.zero_le _,?_,fun _ _=>hR.ok⟩
 split at ho
 ·rename_i h;subst ho;exact ⟨h,rfl⟩
 ·rename_i h;subst ho;exact ⟨rfl,h,rfl⟩
theorem fresh_ok {s:ByteArray} {E:Nat} (h:E≤s.size):WFr s (fresh E):=⟨Nat.le_refl _,h,by show 0+E≤E;omega,fun e=>by cases e⟩
set_option maxRecDepth 100000 in
set_option maxHeartbeats 3200000 in
theorem flContent_alias (w0:World) (g:Nat) (s:ByteArray) (hs:s.size≤10000) (n:Int) (deep p fin:Nat) (T:List UInt8) (E:Nat) (C:Int) (o:Rd (NT × Rst)) (w:World) (h:RS g s n ⟨[],false,fin,p⟩ (.slice none 0 0) w) (hB:Bs w0 w []) (hpc:pkN s p=42) (hZ:AliZ s (p:Int) T (E:Int) C) (hE:E≤s.size) (ho:o=if C=0 then .ok (.mk ⟨2,0,p,0,[],[],T,[],[],false,[]⟩ [],fresh E) else .bad E C) :
  Calls Tryz.prog 37 #[.pointer (some ⟨g,0,none⟩),.int .i64 (deep:Int)] w fun e w'=>NodePost g s n w [] o e w':=by
 have CP:=fun W H=>flPeek_is 42 g s n p (fin:Int) (.slice none 0 0) false W H (by omega) hpc
 have hA:=h.cells
 have hg:=hA.lt
 have hc:=hA.cell
 obtain ⟨W1,hW1⟩:∃ W1,W1=(w.alloc (.cells #[.int .i64 0,.int .i64 0,.int .i64 0,.int .i64 0,.string ⟨#[]⟩,.string ⟨#[]⟩,.string ⟨#[]⟩,.slice none 0 0,.slice none 0 0,.slice none 0 0,.bool false,.string ⟨#[]⟩] 30)).alloc (.cells #[.int .i64 1,.int .i64 1,.int .i64 (p:Int),.int .i64 0,.string ⟨#[]⟩,.string ⟨#[]⟩,.string ⟨#[]⟩,.slice none 0 0,.slice none 0 0,.slice none 0 0,.bool false,.string ⟨#[]⟩] 30):=⟨_,rfl⟩
 have z1:W1.heap.size=w.heap.size+2:=by rw[hW1];simp
 have b1:Below w.heap.size w W1:=by rw[hW1];exact ((Below.refl _ _).alloc (Nat.le_refl _) _).alloc (by simp) _
 have ra:W1.heap[w.heap.size]?=some (.cells #[.int .i64 0,.int .i64 0,.int .i64 0,.int .i64 0,.string ⟨#[]⟩,.string ⟨#[]⟩,.string ⟨#[]⟩,.slice none 0 0,.slice none 0 0,.slice none 0 0,.bool false,.string ⟨#[]⟩] 30 (0,0)):=by rw[hW1];exact (heap_alloc_old _ _ (by simp)).trans (heap_alloc_new w _)
 have rn:W1.heap[w.heap.size+1]?=some (.cells #[.int .i64 1,.int .i64 1,.int .i64 (p:Int),.int .i64 0,.string ⟨#[]⟩,.string ⟨#[]⟩,.string ⟨#[]⟩,.slice none 0 0,.slice none 0 0,.slice none 0 0,.bool false,.string ⟨#[]⟩] 30 (0,0)):=by
  rw[hW1]
  have:=heap_alloc_new (w.alloc (.cells #[.int .i64 0,.int .i64 0,.int .i64 0,.int .i64 0,.string ⟨#[]⟩,.string ⟨#[]⟩,.string ⟨#[]⟩,.slice none 0 0,.slice none 0 0,.slice none 0 0,.bool false,.string ⟨#[]⟩] 30)) (.cells #[.int .i64 1,.int .i64 1,.int .i64 (p:Int),.int .i64 0,.string ⟨#[]⟩,.string ⟨#[]⟩,.string ⟨#[]⟩,.slice none 0 0,.slice none 0 0,.slice none 0 0,.bool false,.string ⟨#[]⟩] 30)
  simpa using this
 have h1:=hA.below b1 hg
 have HW:=Lib.hid hW1
 have B1:=hB.below.trans (b1.mono hB.below.size)
 clear hW1 hA
 go_enter Tryz.func37,Tryz.ntmps37
 go_wp2_with fail
 rw[←HW.out]
 refine (CP _ h1).mono ?_
 rintro e w2 ⟨rfl,j1,rfl⟩
 obtain ⟨W2,hW2⟩:∃ W2,W2=W1.drewN j1:=⟨_,rfl⟩
 have h2:FlAt g s n (p:Int) (fin:Int) (.slice none 0 0) false W2:=by rw[hW2];exact h1.drewN j1
 have b2:Below w.heap.size w W2:=by rw[hW2];exact below_drewN b1 j1
 have B2:Below w0.heap.size w0 W2:=by rw[hW2];exact below_drewN B1 j1
 have z2:W2.heap.size=w.heap.size+2:=by rw[hW2];exact z1
 have ra2:W2.heap[w.heap.size]?=some (.cells #[.int .i64 0,.int .i64 0,.int .i64 0,.int .i64 0,.string ⟨#[]⟩,.string ⟨#[]⟩,.string ⟨#[]⟩,.slice none 0 0,.slice none 0 0,.slice none 0 0,.bool false,.string ⟨#[]⟩] 30 (0,0)):=by rw[hW2];exact ra
 have rn2:W2.heap[w.heap.size+1]?=some (.cells #[.int .i64 1,.int .i64 1,.int .i64 (p:Int),.int .i64 0,.string ⟨#[]⟩,.string ⟨#[]⟩,.string ⟨#[]⟩,.slice none 0 0,.slice none 0 0,.slice none 0 0,.bool false,.string ⟨#[]⟩] 30 (0,0)):=by rw[hW2];exact rn
 rw[←hW2]
 clear hW2 h1 b1 B1 z1 ra rn HW CP hc
 have qn2:∀ j,W2.cell? ⟨w.heap.size+1,j,none⟩=(#[.int .i64 1,.int .i64 1,.int .i64 (p:Int),.int .i64 0,.string ⟨#[]⟩,.string ⟨#[]⟩,.string ⟨#[]⟩,.slice none 0 0,.slice none 0 0,.slice none 0 0,.bool false,.string ⟨#[]⟩]:Array Value)[j]?:=fun j=>cell_of_row W2 _ j _ _ _ rn2
 have fn2:∀ j,W2.frozen? ⟨w.heap.size+1,j,none⟩=false:=fun j=>frozen_of_row W2 _ j _ _ rn2
 have hgn:g≠w.heap.size+1:=by omega
 go_wp2_with fail
 obtain ⟨W3,hW3⟩:∃ W3,W3=((W2.setCell ⟨w.heap.size+1,0,none⟩ (.int .i64 2)).setCell ⟨w.heap.size+1,1,none⟩ (.int .i64 0)):=⟨_,rfl⟩
 have rn3:W3.heap[w.heap.size+1]?=some (.cells #[.int .i64 2,.int .i64 0,.int .i64 (p:Int),.int .i64 0,.string ⟨#[]⟩,.string ⟨#[]⟩,.string ⟨#[]⟩,.slice none 0 0,.slice none 0 0,.slice none 0 0,.bool false,.string ⟨#[]⟩] 30 (0,0)):=by rw[hW3];exact heap_setCell_same _ _ 1 _ _ _ (heap_setCell_same _ _ 0 _ _ _ (rn2))
 have hset3:∀ k,k≠w.heap.size+1→W3.heap[k]?=W2.heap[k]?:=fun k hk=>by rw[hW3];rw[heap_setCell_other _ _ _ _ hk,heap_setCell_other _ _ _ _ hk]
 have z3:W3.heap.size=w.heap.size+2:=by rw[hW3];simpa [World.setCell] using z2
 have b3:Below w.heap.size w W3:=by rw[hW3];exact ((b2).setCell (by show w.heap.size≤w.heap.size+1;omega) _).setCell (by show w.heap.size≤w.heap.size+1;omega) _
 have B3:Below w0.heap.size w0 W3:=by have:=hB.below.size;rw[hW3];exact ((B2).setCell (by show w0.heap.size≤w.heap.size+1;omega) _).setCell (by show w0.heap.size≤w.heap.size+1;omega) _
 have h3:FlAt g s n (p:Int) (fin:Int) (.slice none 0 0) false W3:=(hset3 g hgn).trans h2
 have ra3:=(hset3 w.heap.size (by omega)).trans ra2
 rw[←hW3]
 clear hW3 hset3 h2 b2 B2 z2 ra2 rn2 qn2 fn2
 have c3:=h3.cell
 have hS3:W3.drew.cell? ⟨g,0,none⟩=some (.string s)∧W3.drew.cell? ⟨g,1,none⟩=some (.int .i64 n)∧W3.drew.cell? ⟨g,2,none⟩=some (.int .i64 (p:Int)):=⟨c3 0,c3 1,c3 2⟩
 have CC:∀ W,Below W3.heap.size W3 W→Calls Tryz.prog 52 #[.string s,.int .i64 (p:Int)] W fun e w'=>e=.returned (.tuple #[.string ⟨T.toArray⟩,.int .i64 (E:Int),.int .i64 C])∧Below W.heap.size W w':=fun W hW=>propAlias_is T (E:Int) C s (p:Int) W (by omega) hZ
 have hX:∃ X:ByteArray,X=⟨T.toArray⟩:=⟨_,rfl⟩
 obtain ⟨X,hX⟩:=hX
 rw[←hX] at CC
 have HX:=Lib.hid hX
 clear hX
 refine wp_region_noPanic ?_
 refine wp_region_held_drew (S:=fun w'=>(w'.cell? ⟨g,0,none⟩=some (.string s)∧w'.cell? ⟨g,1,none⟩=some (.int .i64 n)∧w'.cell? ⟨g,2,none⟩=some (.int .i64 (p:Int)))) (by kernel_rfl) ?_ (fun hHeld=>?_)
 ·exact hS3
 refine wpAnyH_take (i:=0) (v:=?_) rfl (by kernel_rfl) (by kernel_rfl) (by kernel_rfl) (fun _ _ _ h=>h) (Or.inl ⟨by rfl,?_⟩) (by assumption) ?_
 rotate_left
 ·(intro w hSw;(try dsimp only at hSw);go_simp <;> with_reducible rfl)
 simp only[List.getElem_toArray,List.getElem_cons_zero,Act.put,List.setIfInBounds_toArray,List.set_cons_zero,List.set_cons_succ]
 refine wpAnyH_take (i:=1) (v:=?_) rfl (by kernel_rfl) (by kernel_rfl) (by kernel_rfl) (fun _ _ _ h=>h) (Or.inl ⟨by rfl,?_⟩) (by assumption) ?_
 rotate_left
 ·(intro w hSw;(try dsimp only at hSw);go_simp <;> with_reducible rfl)
 simp only[List.getElem_toArray,List.getElem_cons_zero,List.getElem_cons_succ,Act.put,List.setIfInBounds_toArray,List.set_cons_zero,List.set_cons_succ]
 refine wpAnyH_take (i:=2) (v:=?_) rfl (by kernel_rfl) (by kernel_rfl) (by kernel_rfl) (fun _ _ _ h=>h) (Or.inl ⟨by rfl,?_⟩) (by assumption) ?_
 rotate_left
 ·(intro w hSw;(try dsimp only at hSw);go_simp <;> with_reducible rfl)
 simp only[List.getElem_toArray,List.getElem_cons_zero,List.getElem_cons_succ,Act.put,List.setIfInBounds_toArray,List.set_cons_zero,List.set_cons_succ]
 refine wpAnyH_take (i:=3) (v:=?_) rfl (by kernel_rfl) (by kernel_rfl) (by kernel_rfl) (fun _ _ _ h=>h) (Or.inl ⟨by rfl,?_⟩) (by assumption) ?_
 rotate_left
 ·(intro w hSw;(try dsimp only at hSw);go_simp <;> with_reducible rfl)
 simp only[List.getElem_toArray,List.getElem_cons_zero,List.getElem_cons_succ,Act.put,List.setIfInBounds_toArray,List.set_cons_zero,List.set_cons_succ]
 refine wpAnyH_take (i:=4) (v:=?_) rfl (by kernel_rfl) (by kernel_rfl) (by kernel_rfl) (fun _ _ _ h=>h) (Or.inl ⟨by rfl,?_⟩) (by assumption) ?_
 rotate_left
 ·(intro w hSw;(try dsimp only at hSw);go_simp <;> with_reducible rfl)
 simp only[List.getElem_toArray,List.getElem_cons_zero,List.getElem_cons_succ,Act.put,List.setIfInBounds_toArray,List.set_cons_zero,List.set_cons_succ]
 refine wpAnyH_take (i:=5) (v:=?_) rfl (by kernel_rfl) (by kernel_rfl) (by kernel_rfl) (fun _ _ _ h=>h) (Or.inl ⟨by rfl,?_⟩) (by assumption) ?_
 rotate_left
 ·(intro w hSw;(try dsimp only at hSw);go_simp <;> with_reducible rfl)
 simp only[List.getElem_toArray,List.getElem_cons_zero,List.getElem_cons_succ,Act.put,List.setIfInBounds_toArray,List.set_cons_zero,List.set_cons_succ]
 refine wpAnyH_take (i:=6) (v:=?_) rfl (by kernel_rfl) (by kernel_rfl) (by kernel_rfl) (fun _ _ _ h=>h) (Or.inl ⟨by rfl,?_⟩) (by assumption) ?_
 rotate_left
 ·(intro w hSw;(try dsimp only at hSw);go_simp <;> with_reducible rfl)
 simp only[List.getElem_toArray,List.getElem_cons_zero,List.getElem_cons_succ,Act.put,List.setIfInBounds_toArray,List.set_cons_zero,List.set_cons_succ]
 refine wpAnyH_take (i:=7) (v:=?_) rfl (by kernel_rfl) (by kernel_rfl) (by kernel_rfl) (fun _ _ _ h=>h) (Or.inl ⟨by rfl,?_⟩) (by assumption) ?_
 rotate_left
 ·(intro w hSw;(try dsimp only at hSw);go_simp <;> with_reducible rfl)
 simp only[List.getElem_toArray,List.getElem_cons_zero,List.getElem_cons_succ,Act.put,List.setIfInBounds_toArray,List.set_cons_zero,List.set_cons_succ]
 refine wpAnyH_ready (rs:=[8]) (by kernel_rfl) (by simp) ?_
 refine AllReadyH.cons rfl (fun K hK=>?_) ?_
 rotate_left
 ·exact AllReadyH.nil
 go_simp
 go_at_call 52
 refine (CC _ (below_drewN (Below.refl _ _) 1)).mono ?_
 rintro e w9 ⟨rfl,b9d⟩
 have b9:Below W3.heap.size W3 w9:=(Below.refl _ _).drew.trans b9d
 have h9:=h3.below b9 (by omega)
 have r9:=(b9.block (w.heap.size+1) (by omega)).trans rn3
 have ra9:=(b9.block w.heap.size (by omega)).trans ra3
 have q9:∀ j,w9.cell? ⟨w.heap.size+1,j,none⟩=(#[.int .i64 2,.int .i64 0,.int .i64 (p:Int),.int .i64 0,.string ⟨#[]⟩,.string ⟨#[]⟩,.string ⟨#[]⟩,.slice none 0 0,.slice none 0 0,.slice none 0 0,.bool false,.string ⟨#[]⟩]:Array Value)[j]?:=fun j=>cell_of_row w9 _ j _ _ _ r9
 have f9:∀ j,w9.frozen? ⟨w.heap.size+1,j,none⟩=false:=fun j=>frozen_of_row w9 _ j _ _ r9
 refine hK.out _ _ ?_ (fun hHeld=>?_)
 ·exact ⟨h9.cell 0,h9.cell 1,h9.cell 2⟩
 clear hK K
 refine wpAnyH_take (i:=9) (v:=?_) rfl (by kernel_rfl) (by kernel_rfl) (by kernel_rfl) (fun _ _ _ h=>h) (Or.inl ⟨by rfl,?_⟩) (by assumption) ?_
 rotate_left
 ·(intro w hSw;(try dsimp only at hSw);go_simp <;> with_reducible rfl)
 simp only[List.getElem_toArray,List.getElem_cons_zero,List.getElem_cons_succ,Act.put,List.setIfInBounds_toArray,List.set_cons_zero,List.set_cons_succ]
 refine wpAnyH_take (i:=10) (v:=?_) rfl (by kernel_rfl) (by kernel_rfl) (by kernel_rfl) (fun _ _ _ h=>h) (Or.inl ⟨by rfl,?_⟩) (by assumption) ?_
 rotate_left
 ·(intro w hSw;(try dsimp only at hSw);go_simp <;> with_reducible rfl)
 simp only[List.getElem_toArray,List.getElem_cons_zero,List.getElem_cons_succ,Act.put,List.setIfInBounds_toArray,List.set_cons_zero,List.set_cons_succ]
 refine wpAnyH_take (i:=11) (v:=?_) rfl (by kernel_rfl) (by kernel_rfl) (by kernel_rfl) (fun _ _ _ h=>h) (Or.inl ⟨by rfl,?_⟩) (by assumption) ?_
 rotate_left
 ·(intro w hSw;(try dsimp only at hSw);go_simp <;> with_reducible rfl)
 simp only[List.getElem_toArray,List.getElem_cons_zero,List.getElem_cons_succ,Act.put,List.setIfInBounds_toArray,List.set_cons_zero,List.set_cons_succ]
 refine wpAnyH_take (i:=12) (v:=?_) rfl (by kernel_rfl) (by kernel_rfl) (by kernel_rfl) (fun _ _ _ h=>h) (Or.inl ⟨by rfl,?_⟩) (by assumption) ?_
 rotate_left
 ·(intro w hSw;(try dsimp only at hSw);go_simp <;> with_reducible rfl)
 simp only[List.getElem_toArray,List.getElem_cons_zero,List.getElem_cons_succ,Act.put,List.setIfInBounds_toArray,List.set_cons_zero,List.set_cons_succ]
 refine wpAnyH_take (i:=13) (v:=?_) rfl (by kernel_rfl) (by kernel_rfl) (by kernel_rfl) (fun _ _ _ h=>h) (Or.inl ⟨by rfl,?_⟩) (by assumption) ?_
 rotate_left
 ·(intro w hSw;(try dsimp only at hSw);go_simp <;> with_reducible rfl)
 simp only[List.getElem_toArray,List.getElem_cons_zero,List.getElem_cons_succ,Act.put,List.setIfInBounds_toArray,List.set_cons_zero,List.set_cons_succ]
 refine wpAnyH_ready (rs:=[14]) (by kernel_rfl) (by simp) ?_
 refine AllReadyH.cons rfl (fun K hK=>?_) ?_
 rotate_left
 ·exact AllReadyH.nil
 go_simp
 refine hK.out _ _ ?_ (fun hHeld=>?_)
 ·exact ⟨(World.cell?_setCell_other w9 ⟨w.heap.size+1,6,none⟩ ⟨g,0,none⟩ (.string X) (fun e=>hgn (congrArg Addr.block e).symm)).trans hHeld.1,(World.cell?_setCell_other w9 ⟨w.heap.size+1,6,none⟩ ⟨g,1,none⟩ (.string X) (fun e=>hgn (congrArg Addr.block e).symm)).trans hHeld.2.1,(World.cell?_setCell_other w9 ⟨w.heap.size+1,6,none⟩ ⟨g,2,none⟩ (.string X) (fun e=>hgn (congrArg Addr.block e).symm)).trans hHeld.2.2⟩
 clear hK K
 refine wpAnyH_take (i:=15) (v:=?_) rfl (by kernel_rfl) (by kernel_rfl) (by kernel_rfl) (fun _ _ _ h=>h) (Or.inl ⟨by rfl,?_⟩) (by assumption) ?_
 rotate_left
 ·(intro w hSw;(try dsimp only at hSw);go_simp <;> with_reducible rfl)
 simp only[List.getElem_toArray,List.getElem_cons_zero,List.getElem_cons_succ,Act.put,List.setIfInBounds_toArray,List.set_cons_zero,List.set_cons_succ]
 refine wpAnyH_take (i:=16) (v:=?_) rfl (by kernel_rfl) (by kernel_rfl) (by kernel_rfl) (fun _ _ _ h=>h) (Or.inl ⟨by rfl,?_⟩) (by assumption) ?_
 rotate_left
 ·(intro w hSw;(try dsimp only at hSw);go_simp <;> with_reducible rfl)
 simp only[List.getElem_toArray,List.getElem_cons_zero,List.getElem_cons_succ,Act.put,List.setIfInBounds_toArray,List.set_cons_zero,List.set_cons_succ]
 refine wpAnyH_done (by kernel_rfl) ?_ _
 refine NoPanic.normal ?_
 obtain ⟨w10,hw10⟩:∃ w10,w10=w9.setCell ⟨w.heap.size+1,6,none⟩ (.string X):=⟨_,rfl⟩
 have r10:w10.heap[w.heap.size+1]?=some (.cells #[.int .i64 2,.int .i64 0,.int .i64 (p:Int),.int .i64 0,.string ⟨#[]⟩,.string ⟨#[]⟩,.string X,.slice none 0 0,.slice none 0 0,.slice none 0 0,.bool false,.string ⟨#[]⟩] 30 (0,0)):=by rw[hw10];exact heap_setCell_same _ _ 6 _ _ _ r9
 have s10:∀ k,k≠w.heap.size+1→w10.heap[k]?=w9.heap[k]?:=fun k hk=>by rw[hw10];exact heap_setCell_other w9 _ _ _ hk
 have z10:w10.heap.size=w9.heap.size:=by rw[hw10];simp[World.setCell]
 have o10:w10.os=w9.os∧w10.tape=w9.tape∧w10.output=w9.output:=by rw[hw10];exact ⟨rfl,rfl,rfl⟩
 rw[←hw10]
 clear hw10 hHeld
 have H10:FlAt g s n (p:Int) (fin:Int) (.slice none 0 0) false w10:=(s10 g hgn).trans h9
 have ra10:=(s10 w.heap.size (by omega)).trans ra9
 have sz9:=b9.size
 go_wp2_with (go_at_call 18;refine (flPass_is g s n _ _ (E:Int) (.slice none 0 0) false _ H10).mono ?_;rintro e w11 ⟨rfl,hA11,hg11,hz11⟩;have r11:=(hg11.block (w.heap.size+1) (by omega) (fun e=>hgn (by injection e with e;exact e.symm))).trans r10;have ra11:=(hg11.block w.heap.size (by omega) (fun e=>Nat.ne_of_lt hg (by injection e with e;exact e.symm))).trans ra10;have q11:∀ j,w11.cell? ⟨w.heap.size+1,j,none⟩=(#[.int .i64 2,.int .i64 0,.int .i64 (p:Int),.int .i64 0,.string ⟨#[]⟩,.string ⟨#[]⟩,.string X,.slice none 0 0,.slice none 0 0,.slice none 0 0,.bool false,.string ⟨#[]⟩]:Array Value)[j]?:=fun j=>cell_of_row w11 _ j _ _ _ r11;have qa11:∀ j,w11.cell? ⟨w.heap.size,j,none⟩=(#[.int .i64 0,.int .i64 0,.int .i64 0,.int .i64 0,.string ⟨#[]⟩,.string ⟨#[]⟩,.string ⟨#[]⟩,.slice none 0 0,.slice none 0 0,.slice none 0 0,.bool false,.string ⟨#[]⟩]:Array Value)[j]?:=fun j=>cell_of_row w11 _ j _ _ _ ra11;have fa11:∀ j,w11.frozen? ⟨w.heap.size,j,none⟩=false:=fun j=>frozen_of_row w11 _ j _ _ ra11)
 obtain ⟨w12,hw12⟩:∃ w12,w12=((((((((((((w11.setCell ⟨w.heap.size,0,none⟩ (.int .i64 2)).setCell ⟨w.heap.size,1,none⟩ (.int .i64 0)).setCell ⟨w.heap.size,2,none⟩ (.int .i64 (p:Int))).setCell ⟨w.heap.size,3,none⟩ (.int .i64 0)).setCell ⟨w.heap.size,4,none⟩ (.string ⟨#[]⟩)).setCell ⟨w.heap.size,5,none⟩ (.string ⟨#[]⟩)).setCell ⟨w.heap.size,6,none⟩ (.string X)).setCell ⟨w.heap.size,7,none⟩ (.slice none 0 0)).setCell ⟨w.heap.size,8,none⟩ (.slice none 0 0)).setCell ⟨w.heap.size,9,none⟩ (.slice none 0 0)).setCell ⟨w.heap.size,10,none⟩ (.bool false)).setCell ⟨w.heap.size,11,none⟩ (.string ⟨#[]⟩)):=⟨_,rfl⟩
 have r12:w12.heap[w.heap.size]?=some (.cells #[.int .i64 2,.int .i64 0,.int .i64 (p:Int),.int .i64 0,.string ⟨#[]⟩,.string ⟨#[]⟩,.string X,.slice none 0 0,.slice none 0 0,.slice none 0 0,.bool false,.string ⟨#[]⟩] 30 (0,0)):=by rw[hw12];exact row12_set w11 (hg:=ra11) ..
 have b12:Below w.heap.size w11 w12:=by rw[hw12];exact row12_below w11 _ _ (Nat.le_refl _) _ _ _ _ _ _ _ _ _ _ _ _
 have z12:w12.heap.size=w11.heap.size:=by rw[hw12,row12_size]
 rw[←hw12]
 clear hw12
 have hcz:∀ j,w12.cell? ⟨w.heap.size,j,none⟩=(#[.int .i64 2,.int .i64 0,.int .i64 (p:Int),.int .i64 0,.string ⟨#[]⟩,.string ⟨#[]⟩,.string X,.slice none 0 0,.slice none 0 0,.slice none 0 0,.bool false,.string ⟨#[]⟩]:Array Value)[j]?:=fun j=>cell_of_row w12 _ j _ _ _ r12
 have A12:FlAt g s n (E:Int) (E:Int) (.slice none 0 0) false w12:=hA11.below b12 hg
 have K12:Keep (Lv w.heap.size g []) w w12:=by
  refine ⟨b12.os.trans (hg11.os.trans (o10.1.trans (b9.os.trans b3.os))),b12.tape.trans (hg11.tape.trans (o10.2.1.trans (b9.tape.trans b3.tape))),b12.output.trans (hg11.output.trans (o10.2.2.trans (b9.output.trans b3.output))),by omega,fun k hk=>?_⟩
  rw[b12.block k hk.1,hg11.block k (by have:=hk.1;omega) (fun e=>hk.2.1 (by injection e)),s10 k (by have:=hk.1;omega),b9.block k (by have:=hk.1;omega),b3.block k hk.1]
 refine bodyPost_ret (v:=.tuple #[.agg #[.int .i64 2,.int .i64 0,.int .i64 (p:Int),.int .i64 0,.string ⟨#[]⟩,.string ⟨#[]⟩,.string X,.slice none 0 0,.slice none 0 0,.slice none 0 0,.bool false,.string ⟨#[]⟩],.int .i64 C]) (by simp[results,Tryz.results37,go_sem,hcz]) rfl ?_
 have HXe:=HX.out
 subst HXe
 exact ⟨_,C,rfl,_,_,_,_,scalar_M K12 ⟨A12,HasV.nil 2 _,(fun e=>by cases e),fresh_ok hE⟩ ho⟩
set_option maxRecDepth 100000 in
set_option maxHeartbeats 3200000 in
theorem flContent_single (w0:World) (hEv:Env w0) (g:Nat) (s:ByteArray) (hs:s.size≤10000) (n:Int) (deep p fin:Nat) (T:List UInt8) (E:Nat) (O:Bool) (C:Int) (o:Rd (NT × Rst)) (w:World) (h:RS g s n ⟨[],false,fin,p⟩ (.slice none 0 0) w) (hB:Bs w0 w []) (hpc:pkN s p=39) (hZ:QuoZ s (p:Int) n T (E:Int) O C) (hE:E≤s.size) (ho:o=if C=0 then .ok (.mk ⟨1,2,p,0,[],[],T,[],[],false,[]⟩ [],fresh E) else .bad E C) :
  Calls Tryz.prog 37 #[.pointer (some ⟨g,0,none⟩),.int .i64 (deep:Int)] w fun e w'=>NodePost g s n w [] o e w':=by
 have CP:=fun W H=>flPeek_is 39 g s n p (fin:Int) (.slice none 0 0) false W H (by omega) hpc
 have hA:=h.cells
 have hg:=hA.lt
 have hc:=hA.cell
 obtain ⟨W1,hW1⟩:∃ W1,W1=(w.alloc (.cells #[.int .i64 0,.int .i64 0,.int .i64 0,.int .i64 0,.string ⟨#[]⟩,.string ⟨#[]⟩,.string ⟨#[]⟩,.slice none 0 0,.slice none 0 0,.slice none 0 0,.bool false,.string ⟨#[]⟩] 30)).alloc (.cells #[.int .i64 1,.int .i64 1,.int .i64 (p:Int),.int .i64 0,.string ⟨#[]⟩,.string ⟨#[]⟩,.string ⟨#[]⟩,.slice none 0 0,.slice none 0 0,.slice none 0 0,.bool false,.string ⟨#[]⟩] 30):=⟨_,rfl⟩
 have z1:W1.heap.size=w.heap.size+2:=by rw[hW1];simp
 have b1:Below w.heap.size w W1:=by rw[hW1];exact ((Below.refl _ _).alloc (Nat.le_refl _) _).alloc (by simp) _
 have ra:W1.heap[w.heap.size]?=some (.cells #[.int .i64 0,.int .i64 0,.int .i64 0,.int .i64 0,.string ⟨#[]⟩,.string ⟨#[]⟩,.string ⟨#[]⟩,.slice none 0 0,.slice none 0 0,.slice none 0 0,.bool false,.string ⟨#[]⟩] 30 (0,0)):=by rw[hW1];exact (heap_alloc_old _ _ (by simp)).trans (heap_alloc_new w _)
 have rn:W1.heap[w.heap.size+1]?=some (.cells #[.int .i64 1,.int .i64 1,.int .i64 (p:Int),.int .i64 0,.string ⟨#[]⟩,.string ⟨#[]⟩,.string ⟨#[]⟩,.slice none 0 0,.slice none 0 0,.slice none 0 0,.bool false,.string ⟨#[]⟩] 30 (0,0)):=by
  rw[hW1]
  have:=heap_alloc_new (w.alloc (.cells #[.int .i64 0,.int .i64 0,.int .i64 0,.int .i64 0,.string ⟨#[]⟩,.string ⟨#[]⟩,.string ⟨#[]⟩,.slice none 0 0,.slice none 0 0,.slice none 0 0,.bool false,.string ⟨#[]⟩] 30)) (.cells #[.int .i64 1,.int .i64 1,.int .i64 (p:Int),.int .i64 0,.string ⟨#[]⟩,.string ⟨#[]⟩,.string ⟨#[]⟩,.slice none 0 0,.slice none 0 0,.slice none 0 0,.bool false,.string ⟨#[]⟩] 30)
  simpa using this
 have h1:=hA.below b1 hg
 have HW:=Lib.hid hW1
 have B1:=hB.below.trans (b1.mono hB.below.size)
 clear hW1 hA
 go_enter Tryz.func37,Tryz.ntmps37
 go_wp2_with fail
 rw[←HW.out]
 refine (CP _ h1).mono ?_
 rintro e w2 ⟨rfl,j1,rfl⟩
 obtain ⟨W2,hW2⟩:∃ W2,W2=W1.drewN j1:=⟨_,rfl⟩
 have h2:FlAt g s n (p:Int) (fin:Int) (.slice none 0 0) false W2:=by rw[hW2];exact h1.drewN j1
 have b2:Below w.heap.size w W2:=by rw[hW2];exact below_drewN b1 j1
 have B2:Below w0.heap.size w0 W2:=by rw[hW2];exact below_drewN B1 j1
 have z2:W2.heap.size=w.heap.size+2:=by rw[hW2];exact z1
 have ra2:W2.heap[w.heap.size]?=some (.cells #[.int .i64 0,.int .i64 0,.int .i64 0,.int .i64 0,.string ⟨#[]⟩,.string ⟨#[]⟩,.string ⟨#[]⟩,.slice none 0 0,.slice none 0 0,.slice none 0 0,.bool false,.string ⟨#[]⟩] 30 (0,0)):=by rw[hW2];exact ra
 have rn2:W2.heap[w.heap.size+1]?=some (.cells #[.int .i64 1,.int .i64 1,.int .i64 (p:Int),.int .i64 0,.string ⟨#[]⟩,.string ⟨#[]⟩,.string ⟨#[]⟩,.slice none 0 0,.slice none 0 0,.slice none 0 0,.bool false,.string ⟨#[]⟩] 30 (0,0)):=by rw[hW2];exact rn
 rw[←hW2]
 clear hW2 h1 b1 B1 z1 ra rn HW CP hc
 have qn2:∀ j,W2.cell? ⟨w.heap.size+1,j,none⟩=(#[.int .i64 1,.int .i64 1,.int .i64 (p:Int),.int .i64 0,.string ⟨#[]⟩,.string ⟨#[]⟩,.string ⟨#[]⟩,.slice none 0 0,.slice none 0 0,.slice none 0 0,.bool false,.string ⟨#[]⟩]:Array Value)[j]?:=fun j=>cell_of_row W2 _ j _ _ _ rn2
 have fn2:∀ j,W2.frozen? ⟨w.heap.size+1,j,none⟩=false:=fun j=>frozen_of_row W2 _ j _ _ rn2
 have hgn:g≠w.heap.size+1:=by omega
 go_wp2_with fail
 obtain ⟨W3,hW3⟩:∃ W3,W3=(W2.setCell ⟨w.heap.size+1,1,none⟩ (.int .i64 2)):=⟨_,rfl⟩
 have rn3:W3.heap[w.heap.size+1]?=some (.cells #[.int .i64 1,.int .i64 2,.int .i64 (p:Int),.int .i64 0,.string ⟨#[]⟩,.string ⟨#[]⟩,.string ⟨#[]⟩,.slice none 0 0,.slice none 0 0,.slice none 0 0,.bool false,.string ⟨#[]⟩] 30 (0,0)):=by rw[hW3];exact heap_setCell_same _ _ 1 _ _ _ (rn2)
 have hset3:∀ k,k≠w.heap.size+1→W3.heap[k]?=W2.heap[k]?:=fun k hk=>by rw[hW3];rw[heap_setCell_other _ _ _ _ hk]
 have z3:W3.heap.size=w.heap.size+2:=by rw[hW3];simpa [World.setCell] using z2
 have b3:Below w.heap.size w W3:=by rw[hW3];exact (b2).setCell (by show w.heap.size≤w.heap.size+1;omega) _
 have B3:Below w0.heap.size w0 W3:=by have:=hB.below.size;rw[hW3];exact (B2).setCell (by show w0.heap.size≤w.heap.size+1;omega) _
 have h3:FlAt g s n (p:Int) (fin:Int) (.slice none 0 0) false W3:=(hset3 g hgn).trans h2
 have ra3:=(hset3 w.heap.size (by omega)).trans ra2
 rw[←hW3]
 clear hW3 hset3 h2 b2 B2 z2 ra2 rn2 qn2 fn2
 have c3:=h3.cell
 have hS3:W3.drew.cell? ⟨g,0,none⟩=some (.string s)∧W3.drew.cell? ⟨g,1,none⟩=some (.int .i64 n)∧W3.drew.cell? ⟨g,2,none⟩=some (.int .i64 (p:Int)):=⟨c3 0,c3 1,c3 2⟩
 have CC:∀ W,Below W3.heap.size W3 W→Calls Tryz.prog 53 #[.string s,.int .i64 (p:Int),.int .i64 n] W fun e w'=>e=.returned (.tuple #[.string ⟨T.toArray⟩,.int .i64 (E:Int),.bool O,.int .i64 C])∧Below W.heap.size W w':=fun W hW=>quotRead_is T (E:Int) O C s (p:Int) n W (by omega) (hEv.below (B3.trans (hW.mono B3.size))) hZ
 have hX:∃ X:ByteArray,X=⟨T.toArray⟩:=⟨_,rfl⟩
 obtain ⟨X,hX⟩:=hX
 rw[←hX] at CC
 have HX:=Lib.hid hX
 clear hX
 refine wp_region_noPanic ?_
 refine wp_region_held_drew (S:=fun w'=>(w'.cell? ⟨g,0,none⟩=some (.string s)∧w'.cell? ⟨g,1,none⟩=some (.int .i64 n)∧w'.cell? ⟨g,2,none⟩=some (.int .i64 (p:Int)))) (by kernel_rfl) ?_ (fun hHeld=>?_)
 ·exact hS3
 refine wpAnyH_take (i:=0) (v:=?_) rfl (by kernel_rfl) (by kernel_rfl) (by kernel_rfl) (fun _ _ _ h=>h) (Or.inl ⟨by rfl,?_⟩) (by assumption) ?_
 rotate_left
 ·(intro w hSw;(try dsimp only at hSw);go_simp <;> with_reducible rfl)
 simp only[List.getElem_toArray,List.getElem_cons_zero,Act.put,List.setIfInBounds_toArray,List.set_cons_zero,List.set_cons_succ]
 refine wpAnyH_take (i:=1) (v:=?_) rfl (by kernel_rfl) (by kernel_rfl) (by kernel_rfl) (fun _ _ _ h=>h) (Or.inl ⟨by rfl,?_⟩) (by assumption) ?_
 rotate_left
 ·(intro w hSw;(try dsimp only at hSw);go_simp <;> with_reducible rfl)
 simp only[List.getElem_toArray,List.getElem_cons_zero,List.getElem_cons_succ,Act.put,List.setIfInBounds_toArray,List.set_cons_zero,List.set_cons_succ]
 refine wpAnyH_take (i:=2) (v:=?_) rfl (by kernel_rfl) (by kernel_rfl) (by kernel_rfl) (fun _ _ _ h=>h) (Or.inl ⟨by rfl,?_⟩) (by assumption) ?_
 rotate_left
 ·(intro w hSw;(try dsimp only at hSw);go_simp <;> with_reducible rfl)
 simp only[List.getElem_toArray,List.getElem_cons_zero,List.getElem_cons_succ,Act.put,List.setIfInBounds_toArray,List.set_cons_zero,List.set_cons_succ]
 refine wpAnyH_take (i:=3) (v:=?_) rfl (by kernel_rfl) (by kernel_rfl) (by kernel_rfl) (fun _ _ _ h=>h) (Or.inl ⟨by rfl,?_⟩) (by assumption) ?_
 rotate_left
 ·(intro w hSw;(try dsimp only at hSw);go_simp <;> with_reducible rfl)
 simp only[List.getElem_toArray,List.getElem_cons_zero,List.getElem_cons_succ,Act.put,List.setIfInBounds_toArray,List.set_cons_zero,List.set_cons_succ]
 refine wpAnyH_take (i:=4) (v:=?_) rfl (by kernel_rfl) (by kernel_rfl) (by kernel_rfl) (fun _ _ _ h=>h) (Or.inl ⟨by rfl,?_⟩) (by assumption) ?_
 rotate_left
 ·(intro w hSw;(try dsimp only at hSw);go_simp <;> with_reducible rfl)
 simp only[List.getElem_toArray,List.getElem_cons_zero,List.getElem_cons_succ,Act.put,List.setIfInBounds_toArray,List.set_cons_zero,List.set_cons_succ]
 refine wpAnyH_take (i:=5) (v:=?_) rfl (by kernel_rfl) (by kernel_rfl) (by kernel_rfl) (fun _ _ _ h=>h) (Or.inl ⟨by rfl,?_⟩) (by assumption) ?_
 rotate_left
 ·(intro w hSw;(try dsimp only at hSw);go_simp <;> with_reducible rfl)
 simp only[List.getElem_toArray,List.getElem_cons_zero,List.getElem_cons_succ,Act.put,List.setIfInBounds_toArray,List.set_cons_zero,List.set_cons_succ]
 refine wpAnyH_take (i:=6) (v:=?_) rfl (by kernel_rfl) (by kernel_rfl) (by kernel_rfl) (fun _ _ _ h=>h) (Or.inl ⟨by rfl,?_⟩) (by assumption) ?_
 rotate_left
 ·(intro w hSw;(try dsimp only at hSw);go_simp <;> with_reducible rfl)
 simp only[List.getElem_toArray,List.getElem_cons_zero,List.getElem_cons_succ,Act.put,List.setIfInBounds_toArray,List.set_cons_zero,List.set_cons_succ]
 refine wpAnyH_take (i:=7) (v:=?_) rfl (by kernel_rfl) (by kernel_rfl) (by kernel_rfl) (fun _ _ _ h=>h) (Or.inl ⟨by rfl,?_⟩) (by assumption) ?_
 rotate_left
 ·(intro w hSw;(try dsimp only at hSw);go_simp <;> with_reducible rfl)
 simp only[List.getElem_toArray,List.getElem_cons_zero,List.getElem_cons_succ,Act.put,List.setIfInBounds_toArray,List.set_cons_zero,List.set_cons_succ]
 refine wpAnyH_take (i:=8) (v:=?_) rfl (by kernel_rfl) (by kernel_rfl) (by kernel_rfl) (fun _ _ _ h=>h) (Or.inl ⟨by rfl,?_⟩) (by assumption) ?_
 rotate_left
 ·(intro w hSw;(try dsimp only at hSw);go_simp <;> with_reducible rfl)
 simp only[List.getElem_toArray,List.getElem_cons_zero,List.getElem_cons_succ,Act.put,List.setIfInBounds_toArray,List.set_cons_zero,List.set_cons_succ]
 refine wpAnyH_take (i:=9) (v:=?_) rfl (by kernel_rfl) (by kernel_rfl) (by kernel_rfl) (fun _ _ _ h=>h) (Or.inl ⟨by rfl,?_⟩) (by assumption) ?_
 rotate_left
 ·(intro w hSw;(try dsimp only at hSw);go_simp <;> with_reducible rfl)
 simp only[List.getElem_toArray,List.getElem_cons_zero,List.getElem_cons_succ,Act.put,List.setIfInBounds_toArray,List.set_cons_zero,List.set_cons_succ]
 refine wpAnyH_take (i:=10) (v:=?_) rfl (by kernel_rfl) (by kernel_rfl) (by kernel_rfl) (fun _ _ _ h=>h) (Or.inl ⟨by rfl,?_⟩) (by assumption) ?_
 rotate_left
 ·(intro w hSw;(try dsimp only at hSw);go_simp <;> with_reducible rfl)
 simp only[List.getElem_toArray,List.getElem_cons_zero,List.getElem_cons_succ,Act.put,List.setIfInBounds_toArray,List.set_cons_zero,List.set_cons_succ]
 refine wpAnyH_take (i:=11) (v:=?_) rfl (by kernel_rfl) (by kernel_rfl) (by kernel_rfl) (fun _ _ _ h=>h) (Or.inl ⟨by rfl,?_⟩) (by assumption) ?_
 rotate_left
 ·(intro w hSw;(try dsimp only at hSw);go_simp <;> with_reducible rfl)
 simp only[List.getElem_toArray,List.getElem_cons_zero,List.getElem_cons_succ,Act.put,List.setIfInBounds_toArray,List.set_cons_zero,List.set_cons_succ]
 refine wpAnyH_ready (rs:=[12]) (by kernel_rfl) (by simp) ?_
 refine AllReadyH.cons rfl (fun K hK=>?_) ?_
 rotate_left
 ·exact AllReadyH.nil
 go_simp
 go_at_call 53
 refine (CC _ (below_drewN (Below.refl _ _) 1)).mono ?_
 rintro e w9 ⟨rfl,b9d⟩
 have b9:Below W3.heap.size W3 w9:=(Below.refl _ _).drew.trans b9d
 have h9:=h3.below b9 (by omega)
 have r9:=(b9.block (w.heap.size+1) (by omega)).trans rn3
 have ra9:=(b9.block w.heap.size (by omega)).trans ra3
 have q9:∀ j,w9.cell? ⟨w.heap.size+1,j,none⟩=(#[.int .i64 1,.int .i64 2,.int .i64 (p:Int),.int .i64 0,.string ⟨#[]⟩,.string ⟨#[]⟩,.string ⟨#[]⟩,.slice none 0 0,.slice none 0 0,.slice none 0 0,.bool false,.string ⟨#[]⟩]:Array Value)[j]?:=fun j=>cell_of_row w9 _ j _ _ _ r9
 have f9:∀ j,w9.frozen? ⟨w.heap.size+1,j,none⟩=false:=fun j=>frozen_of_row w9 _ j _ _ r9
 refine hK.out _ _ ?_ (fun hHeld=>?_)
 ·exact ⟨h9.cell 0,h9.cell 1,h9.cell 2⟩
 clear hK K
 refine wpAnyH_take (i:=13) (v:=?_) rfl (by kernel_rfl) (by kernel_rfl) (by kernel_rfl) (fun _ _ _ h=>h) (Or.inl ⟨by rfl,?_⟩) (by assumption) ?_
 rotate_left
 ·(intro w hSw;(try dsimp only at hSw);go_simp <;> with_reducible rfl)
 simp only[List.getElem_toArray,List.getElem_cons_zero,List.getElem_cons_succ,Act.put,List.setIfInBounds_toArray,List.set_cons_zero,List.set_cons_succ]
 refine wpAnyH_take (i:=14) (v:=?_) rfl (by kernel_rfl) (by kernel_rfl) (by kernel_rfl) (fun _ _ _ h=>h) (Or.inl ⟨by rfl,?_⟩) (by assumption) ?_
 rotate_left
 ·(intro w hSw;(try dsimp only at hSw);go_simp <;> with_reducible rfl)
 simp only[List.getElem_toArray,List.getElem_cons_zero,List.getElem_cons_succ,Act.put,List.setIfInBounds_toArray,List.set_cons_zero,List.set_cons_succ]
 refine wpAnyH_take (i:=15) (v:=?_) rfl (by kernel_rfl) (by kernel_rfl) (by kernel_rfl) (fun _ _ _ h=>h) (Or.inl ⟨by rfl,?_⟩) (by assumption) ?_
 rotate_left
 ·(intro w hSw;(try dsimp only at hSw);go_simp <;> with_reducible rfl)
 simp only[List.getElem_toArray,List.getElem_cons_zero,List.getElem_cons_succ,Act.put,List.setIfInBounds_toArray,List.set_cons_zero,List.set_cons_succ]
 refine wpAnyH_take (i:=16) (v:=?_) rfl (by kernel_rfl) (by kernel_rfl) (by kernel_rfl) (fun _ _ _ h=>h) (Or.inl ⟨by rfl,?_⟩) (by assumption) ?_
 rotate_left
 ·(intro w hSw;(try dsimp only at hSw);go_simp <;> with_reducible rfl)
 simp only[List.getElem_toArray,List.getElem_cons_zero,List.getElem_cons_succ,Act.put,List.setIfInBounds_toArray,List.set_cons_zero,List.set_cons_succ]
 refine wpAnyH_take (i:=17) (v:=?_) rfl (by kernel_rfl) (by kernel_rfl) (by kernel_rfl) (fun _ _ _ h=>h) (Or.inl ⟨by rfl,?_⟩) (by assumption) ?_
 rotate_left
 ·(intro w hSw;(try dsimp only at hSw);go_simp <;> with_reducible rfl)
 simp only[List.getElem_toArray,List.getElem_cons_zero,List.getElem_cons_succ,Act.put,List.setIfInBounds_toArray,List.set_cons_zero,List.set_cons_succ]
 refine wpAnyH_take (i:=18) (v:=?_) rfl (by kernel_rfl) (by kernel_rfl) (by kernel_rfl) (fun _ _ _ h=>h) (Or.inl ⟨by rfl,?_⟩) (by assumption) ?_
 rotate_left
 ·(intro w hSw;(try dsimp only at hSw);go_simp <;> with_reducible rfl)
 simp only[List.getElem_toArray,List.getElem_cons_zero,List.getElem_cons_succ,Act.put,List.setIfInBounds_toArray,List.set_cons_zero,List.set_cons_succ]
 refine wpAnyH_ready (rs:=[19]) (by kernel_rfl) (by simp) ?_
 refine AllReadyH.cons rfl (fun K hK=>?_) ?_
 rotate_left
 ·exact AllReadyH.nil
 go_simp
 refine hK.out _ _ ?_ (fun hHeld=>?_)
 ·exact ⟨(World.cell?_setCell_other w9 ⟨w.heap.size+1,6,none⟩ ⟨g,0,none⟩ (.string X) (fun e=>hgn (congrArg Addr.block e).symm)).trans hHeld.1,(World.cell?_setCell_other w9 ⟨w.heap.size+1,6,none⟩ ⟨g,1,none⟩ (.string X) (fun e=>hgn (congrArg Addr.block e).symm)).trans hHeld.2.1,(World.cell?_setCell_other w9 ⟨w.heap.size+1,6,none⟩ ⟨g,2,none⟩ (.string X) (fun e=>hgn (congrArg Addr.block e).symm)).trans hHeld.2.2⟩
 clear hK K
 refine wpAnyH_take (i:=20) (v:=?_) rfl (by kernel_rfl) (by kernel_rfl) (by kernel_rfl) (fun _ _ _ h=>h) (Or.inl ⟨by rfl,?_⟩) (by assumption) ?_
 rotate_left
 ·(intro w hSw;(try dsimp only at hSw);go_simp <;> with_reducible rfl)
 simp only[List.getElem_toArray,List.getElem_cons_zero,List.getElem_cons_succ,Act.put,List.setIfInBounds_toArray,List.set_cons_zero,List.set_cons_succ]
 refine wpAnyH_take (i:=21) (v:=?_) rfl (by kernel_rfl) (by kernel_rfl) (by kernel_rfl) (fun _ _ _ h=>h) (Or.inl ⟨by rfl,?_⟩) (by assumption) ?_
 rotate_left
 ·(intro w hSw;(try dsimp only at hSw);go_simp <;> with_reducible rfl)
 simp only[List.getElem_toArray,List.getElem_cons_zero,List.getElem_cons_succ,Act.put,List.setIfInBounds_toArray,List.set_cons_zero,List.set_cons_succ]
 refine wpAnyH_done (by kernel_rfl) ?_ _
 refine NoPanic.normal ?_
 obtain ⟨w10,hw10⟩:∃ w10,w10=w9.setCell ⟨w.heap.size+1,6,none⟩ (.string X):=⟨_,rfl⟩
 have r10:w10.heap[w.heap.size+1]?=some (.cells #[.int .i64 1,.int .i64 2,.int .i64 (p:Int),.int .i64 0,.string ⟨#[]⟩,.string ⟨#[]⟩,.string X,.slice none 0 0,.slice none 0 0,.slice none 0 0,.bool false,.string ⟨#[]⟩] 30 (0,0)):=by rw[hw10];exact heap_setCell_same _ _ 6 _ _ _ r9
 have s10:∀ k,k≠w.heap.size+1→w10.heap[k]?=w9.heap[k]?:=fun k hk=>by rw[hw10];exact heap_setCell_other w9 _ _ _ hk
 have z10:w10.heap.size=w9.heap.size:=by rw[hw10];simp[World.setCell]
 have o10:w10.os=w9.os∧w10.tape=w9.tape∧w10.output=w9.output:=by rw[hw10];exact ⟨rfl,rfl,rfl⟩
 rw[←hw10]
 clear hw10 hHeld
 have H10:FlAt g s n (p:Int) (fin:Int) (.slice none 0 0) false w10:=(s10 g hgn).trans h9
 have ra10:=(s10 w.heap.size (by omega)).trans ra9
 have sz9:=b9.size
 go_wp2_with (go_at_call 18;refine (flPass_is g s n _ _ (E:Int) (.slice none 0 0) false _ H10).mono ?_;rintro e w11 ⟨rfl,hA11,hg11,hz11⟩;have r11:=(hg11.block (w.heap.size+1) (by omega) (fun e=>hgn (by injection e with e;exact e.symm))).trans r10;have ra11:=(hg11.block w.heap.size (by omega) (fun e=>Nat.ne_of_lt hg (by injection e with e;exact e.symm))).trans ra10;have q11:∀ j,w11.cell? ⟨w.heap.size+1,j,none⟩=(#[.int .i64 1,.int .i64 2,.int .i64 (p:Int),.int .i64 0,.string ⟨#[]⟩,.string ⟨#[]⟩,.string X,.slice none 0 0,.slice none 0 0,.slice none 0 0,.bool false,.string ⟨#[]⟩]:Array Value)[j]?:=fun j=>cell_of_row w11 _ j _ _ _ r11;have qa11:∀ j,w11.cell? ⟨w.heap.size,j,none⟩=(#[.int .i64 0,.int .i64 0,.int .i64 0,.int .i64 0,.string ⟨#[]⟩,.string ⟨#[]⟩,.string ⟨#[]⟩,.slice none 0 0,.slice none 0 0,.slice none 0 0,.bool false,.string ⟨#[]⟩]:Array Value)[j]?:=fun j=>cell_of_row w11 _ j _ _ _ ra11;have fa11:∀ j,w11.frozen? ⟨w.heap.size,j,none⟩=false:=fun j=>frozen_of_row w11 _ j _ _ ra11)
 obtain ⟨w12,hw12⟩:∃ w12,w12=((((((((((((w11.setCell ⟨w.heap.size,0,none⟩ (.int .i64 1)).setCell ⟨w.heap.size,1,none⟩ (.int .i64 2)).setCell ⟨w.heap.size,2,none⟩ (.int .i64 (p:Int))).setCell ⟨w.heap.size,3,none⟩ (.int .i64 0)).setCell ⟨w.heap.size,4,none⟩ (.string ⟨#[]⟩)).setCell ⟨w.heap.size,5,none⟩ (.string ⟨#[]⟩)).setCell ⟨w.heap.size,6,none⟩ (.string X)).setCell ⟨w.heap.size,7,none⟩ (.slice none 0 0)).setCell ⟨w.heap.size,8,none⟩ (.slice none 0 0)).setCell ⟨w.heap.size,9,none⟩ (.slice none 0 0)).setCell ⟨w.heap.size,10,none⟩ (.bool false)).setCell ⟨w.heap.size,11,none⟩ (.string ⟨#[]⟩)):=⟨_,rfl⟩
 have r12:w12.heap[w.heap.size]?=some (.cells #[.int .i64 1,.int .i64 2,.int .i64 (p:Int),.int .i64 0,.string ⟨#[]⟩,.string ⟨#[]⟩,.string X,.slice none 0 0,.slice none 0 0,.slice none 0 0,.bool false,.string ⟨#[]⟩] 30 (0,0)):=by rw[hw12];exact row12_set w11 (hg:=ra11) ..
 have b12:Below w.heap.size w11 w12:=by rw[hw12];exact row12_below w11 _ _ (Nat.le_refl _) _ _ _ _ _ _ _ _ _ _ _ _
 have z12:w12.heap.size=w11.heap.size:=by rw[hw12,row12_size]
 rw[←hw12]
 clear hw12
 have hcz:∀ j,w12.cell? ⟨w.heap.size,j,none⟩=(#[.int .i64 1,.int .i64 2,.int .i64 (p:Int),.int .i64 0,.string ⟨#[]⟩,.string ⟨#[]⟩,.string X,.slice none 0 0,.slice none 0 0,.slice none 0 0,.bool false,.string ⟨#[]⟩]:Array Value)[j]?:=fun j=>cell_of_row w12 _ j _ _ _ r12
 have A12:FlAt g s n (E:Int) (E:Int) (.slice none 0 0) false w12:=hA11.below b12 hg
 have K12:Keep (Lv w.heap.size g []) w w12:=by
  refine ⟨b12.os.trans (hg11.os.trans (o10.1.trans (b9.os.trans b3.os))),b12.tape.trans (hg11.tape.trans (o10.2.1.trans (b9.tape.trans b3.tape))),b12.output.trans (hg11.output.trans (o10.2.2.trans (b9.output.trans b3.output))),by omega,fun k hk=>?_⟩
  rw[b12.block k hk.1,hg11.block k (by have:=hk.1;omega) (fun e=>hk.2.1 (by injection e)),s10 k (by have:=hk.1;omega),b9.block k (by have:=hk.1;omega),b3.block k hk.1]
 refine bodyPost_ret (v:=.tuple #[.agg #[.int .i64 1,.int .i64 2,.int .i64 (p:Int),.int .i64 0,.string ⟨#[]⟩,.string ⟨#[]⟩,.string X,.slice none 0 0,.slice none 0 0,.slice none 0 0,.bool false,.string ⟨#[]⟩],.int .i64 C]) (by simp[results,Tryz.results37,go_sem,hcz]) rfl ?_
 have HXe:=HX.out
 subst HXe
 exact ⟨_,C,rfl,_,_,_,_,scalar_M K12 ⟨A12,HasV.nil 2 _,(fun e=>by cases e),fresh_ok hE⟩ ho⟩
set_option maxRecDepth 100000 in
set_option maxHeartbeats 3200000 in
theorem flContent_double (w0:World) (hEv:Env w0) (g:Nat) (s:ByteArray) (hs:s.size≤10000) (n:Int) (deep p fin:Nat) (T:List UInt8) (E:Nat) (O:Bool) (C:Int) (o:Rd (NT × Rst)) (w:World) (h:RS g s n ⟨[],false,fin,p⟩ (.slice none 0 0) w) (hB:Bs w0 w []) (hpc:pkN s p=34) (hZ:QuoZ s (p:Int) n T (E:Int) O C) (hE:E≤s.size) (ho:o=if C=0 then .ok (.mk ⟨1,3,p,0,[],[],T,[],[],false,[]⟩ [],fresh E) else .bad E C) :
  Calls Tryz.prog 37 #[.pointer (some ⟨g,0,none⟩),.int .i64 (deep:Int)] w fun e w'=>NodePost g s n w [] o e w':=by
 have CP:=fun W H=>flPeek_is 34 g s n p (fin:Int) (.slice none 0 0) false W H (by omega) hpc
 have hA:=h.cells
 have hg:=hA.lt
 have hc:=hA.cell
 obtain ⟨W1,hW1⟩:∃ W1,W1=(w.alloc (.cells #[.int .i64 0,.int .i64 0,.int .i64 0,.int .i64 0,.string ⟨#[]⟩,.string ⟨#[]⟩,.string ⟨#[]⟩,.slice none 0 0,.slice none 0 0,.slice none 0 0,.bool false,.string ⟨#[]⟩] 30)).alloc (.cells #[.int .i64 1,.int .i64 1,.int .i64 (p:Int),.int .i64 0,.string ⟨#[]⟩,.string ⟨#[]⟩,.string ⟨#[]⟩,.slice none 0 0,.slice none 0 0,.slice none 0 0,.bool false,.string ⟨#[]⟩] 30):=⟨_,rfl⟩
 have z1:W1.heap.size=w.heap.size+2:=by rw[hW1];simp
 have b1:Below w.heap.size w W1:=by rw[hW1];exact ((Below.refl _ _).alloc (Nat.le_refl _) _).alloc (by simp) _
 have ra:W1.heap[w.heap.size]?=some (.cells #[.int .i64 0,.int .i64 0,.int .i64 0,.int .i64 0,.string ⟨#[]⟩,.string ⟨#[]⟩,.string ⟨#[]⟩,.slice none 0 0,.slice none 0 0,.slice none 0 0,.bool false,.string ⟨#[]⟩] 30 (0,0)):=by rw[hW1];exact (heap_alloc_old _ _ (by simp)).trans (heap_alloc_new w _)
 have rn:W1.heap[w.heap.size+1]?=some (.cells #[.int .i64 1,.int .i64 1,.int .i64 (p:Int),.int .i64 0,.string ⟨#[]⟩,.string ⟨#[]⟩,.string ⟨#[]⟩,.slice none 0 0,.slice none 0 0,.slice none 0 0,.bool false,.string ⟨#[]⟩] 30 (0,0)):=by
  rw[hW1]
  have:=heap_alloc_new (w.alloc (.cells #[.int .i64 0,.int .i64 0,.int .i64 0,.int .i64 0,.string ⟨#[]⟩,.string ⟨#[]⟩,.string ⟨#[]⟩,.slice none 0 0,.slice none 0 0,.slice none 0 0,.bool false,.string ⟨#[]⟩] 30)) (.cells #[.int .i64 1,.int .i64 1,.int .i64 (p:Int),.int .i64 0,.string ⟨#[]⟩,.string ⟨#[]⟩,.string ⟨#[]⟩,.slice none 0 0,.slice none 0 0,.slice none 0 0,.bool false,.string ⟨#[]⟩] 30)
  simpa using this
 have h1:=hA.below b1 hg
 have HW:=Lib.hid hW1
 have B1:=hB.below.trans (b1.mono hB.below.size)
 clear hW1 hA
 go_enter Tryz.func37,Tryz.ntmps37
 go_wp2_with fail
 rw[←HW.out]
 refine (CP _ h1).mono ?_
 rintro e w2 ⟨rfl,j1,rfl⟩
 obtain ⟨W2,hW2⟩:∃ W2,W2=W1.drewN j1:=⟨_,rfl⟩
 have h2:FlAt g s n (p:Int) (fin:Int) (.slice none 0 0) false W2:=by rw[hW2];exact h1.drewN j1
 have b2:Below w.heap.size w W2:=by rw[hW2];exact below_drewN b1 j1
 have B2:Below w0.heap.size w0 W2:=by rw[hW2];exact below_drewN B1 j1
 have z2:W2.heap.size=w.heap.size+2:=by rw[hW2];exact z1
 have ra2:W2.heap[w.heap.size]?=some (.cells #[.int .i64 0,.int .i64 0,.int .i64 0,.int .i64 0,.string ⟨#[]⟩,.string ⟨#[]⟩,.string ⟨#[]⟩,.slice none 0 0,.slice none 0 0,.slice none 0 0,.bool false,.string ⟨#[]⟩] 30 (0,0)):=by rw[hW2];exact ra
 have rn2:W2.heap[w.heap.size+1]?=some (.cells #[.int .i64 1,.int .i64 1,.int .i64 (p:Int),.int .i64 0,.string ⟨#[]⟩,.string ⟨#[]⟩,.string ⟨#[]⟩,.slice none 0 0,.slice none 0 0,.slice none 0 0,.bool false,.string ⟨#[]⟩] 30 (0,0)):=by rw[hW2];exact rn
 rw[←hW2]
 clear hW2 h1 b1 B1 z1 ra rn HW CP hc
 have qn2:∀ j,W2.cell? ⟨w.heap.size+1,j,none⟩=(#[.int .i64 1,.int .i64 1,.int .i64 (p:Int),.int .i64 0,.string ⟨#[]⟩,.string ⟨#[]⟩,.string ⟨#[]⟩,.slice none 0 0,.slice none 0 0,.slice none 0 0,.bool false,.string ⟨#[]⟩]:Array Value)[j]?:=fun j=>cell_of_row W2 _ j _ _ _ rn2
 have fn2:∀ j,W2.frozen? ⟨w.heap.size+1,j,none⟩=false:=fun j=>frozen_of_row W2 _ j _ _ rn2
 have hgn:g≠w.heap.size+1:=by omega
 go_wp2_with fail
 obtain ⟨W3,hW3⟩:∃ W3,W3=(W2.setCell ⟨w.heap.size+1,1,none⟩ (.int .i64 3)):=⟨_,rfl⟩
 have rn3:W3.heap[w.heap.size+1]?=some (.cells #[.int .i64 1,.int .i64 3,.int .i64 (p:Int),.int .i64 0,.string ⟨#[]⟩,.string ⟨#[]⟩,.string ⟨#[]⟩,.slice none 0 0,.slice none 0 0,.slice none 0 0,.bool false,.string ⟨#[]⟩] 30 (0,0)):=by rw[hW3];exact heap_setCell_same _ _ 1 _ _ _ (rn2)
 have hset3:∀ k,k≠w.heap.size+1→W3.heap[k]?=W2.heap[k]?:=fun k hk=>by rw[hW3];rw[heap_setCell_other _ _ _ _ hk]
 have z3:W3.heap.size=w.heap.size+2:=by rw[hW3];simpa [World.setCell] using z2
 have b3:Below w.heap.size w W3:=by rw[hW3];exact (b2).setCell (by show w.heap.size≤w.heap.size+1;omega) _
 have B3:Below w0.heap.size w0 W3:=by have:=hB.below.size;rw[hW3];exact (B2).setCell (by show w0.heap.size≤w.heap.size+1;omega) _
 have h3:FlAt g s n (p:Int) (fin:Int) (.slice none 0 0) false W3:=(hset3 g hgn).trans h2
 have ra3:=(hset3 w.heap.size (by omega)).trans ra2
 rw[←hW3]
 clear hW3 hset3 h2 b2 B2 z2 ra2 rn2 qn2 fn2
 have c3:=h3.cell
 have hS3:W3.drew.cell? ⟨g,0,none⟩=some (.string s)∧W3.drew.cell? ⟨g,1,none⟩=some (.int .i64 n)∧W3.drew.cell? ⟨g,2,none⟩=some (.int .i64 (p:Int)):=⟨c3 0,c3 1,c3 2⟩
 have CC:∀ W,Below W3.heap.size W3 W→Calls Tryz.prog 53 #[.string s,.int .i64 (p:Int),.int .i64 n] W fun e w'=>e=.returned (.tuple #[.string ⟨T.toArray⟩,.int .i64 (E:Int),.bool O,.int .i64 C])∧Below W.heap.size W w':=fun W hW=>quotRead_is T (E:Int) O C s (p:Int) n W (by omega) (hEv.below (B3.trans (hW.mono B3.size))) hZ
 have hX:∃ X:ByteArray,X=⟨T.toArray⟩:=⟨_,rfl⟩
 obtain ⟨X,hX⟩:=hX
 rw[←hX] at CC
 have HX:=Lib.hid hX
 clear hX
 refine wp_region_noPanic ?_
 refine wp_region_held_drew (S:=fun w'=>(w'.cell? ⟨g,0,none⟩=some (.string s)∧w'.cell? ⟨g,1,none⟩=some (.int .i64 n)∧w'.cell? ⟨g,2,none⟩=some (.int .i64 (p:Int)))) (by kernel_rfl) ?_ (fun hHeld=>?_)
 ·exact hS3
 refine wpAnyH_take (i:=0) (v:=?_) rfl (by kernel_rfl) (by kernel_rfl) (by kernel_rfl) (fun _ _ _ h=>h) (Or.inl ⟨by rfl,?_⟩) (by assumption) ?_
 rotate_left
 ·(intro w hSw;(try dsimp only at hSw);go_simp <;> with_reducible rfl)
 simp only[List.getElem_toArray,List.getElem_cons_zero,Act.put,List.setIfInBounds_toArray,List.set_cons_zero,List.set_cons_succ]
 refine wpAnyH_take (i:=1) (v:=?_) rfl (by kernel_rfl) (by kernel_rfl) (by kernel_rfl) (fun _ _ _ h=>h) (Or.inl ⟨by rfl,?_⟩) (by assumption) ?_
 rotate_left
 ·(intro w hSw;(try dsimp only at hSw);go_simp <;> with_reducible rfl)
 simp only[List.getElem_toArray,List.getElem_cons_zero,List.getElem_cons_succ,Act.put,List.setIfInBounds_toArray,List.set_cons_zero,List.set_cons_succ]
 refine wpAnyH_take (i:=2) (v:=?_) rfl (by kernel_rfl) (by kernel_rfl) (by kernel_rfl) (fun _ _ _ h=>h) (Or.inl ⟨by rfl,?_⟩) (by assumption) ?_
 rotate_left
 ·(intro w hSw;(try dsimp only at hSw);go_simp <;> with_reducible rfl)
 simp only[List.getElem_toArray,List.getElem_cons_zero,List.getElem_cons_succ,Act.put,List.setIfInBounds_toArray,List.set_cons_zero,List.set_cons_succ]
 refine wpAnyH_take (i:=3) (v:=?_) rfl (by kernel_rfl) (by kernel_rfl) (by kernel_rfl) (fun _ _ _ h=>h) (Or.inl ⟨by rfl,?_⟩) (by assumption) ?_
 rotate_left
 ·(intro w hSw;(try dsimp only at hSw);go_simp <;> with_reducible rfl)
 simp only[List.getElem_toArray,List.getElem_cons_zero,List.getElem_cons_succ,Act.put,List.setIfInBounds_toArray,List.set_cons_zero,List.set_cons_succ]
 refine wpAnyH_take (i:=4) (v:=?_) rfl (by kernel_rfl) (by kernel_rfl) (by kernel_rfl) (fun _ _ _ h=>h) (Or.inl ⟨by rfl,?_⟩) (by assumption) ?_
 rotate_left
 ·(intro w hSw;(try dsimp only at hSw);go_simp <;> with_reducible rfl)
 simp only[List.getElem_toArray,List.getElem_cons_zero,List.getElem_cons_succ,Act.put,List.setIfInBounds_toArray,List.set_cons_zero,List.set_cons_succ]
 refine wpAnyH_take (i:=5) (v:=?_) rfl (by kernel_rfl) (by kernel_rfl) (by kernel_rfl) (fun _ _ _ h=>h) (Or.inl ⟨by rfl,?_⟩) (by assumption) ?_
 rotate_left
 ·(intro w hSw;(try dsimp only at hSw);go_simp <;> with_reducible rfl)
 simp only[List.getElem_toArray,List.getElem_cons_zero,List.getElem_cons_succ,Act.put,List.setIfInBounds_toArray,List.set_cons_zero,List.set_cons_succ]
 refine wpAnyH_take (i:=6) (v:=?_) rfl (by kernel_rfl) (by kernel_rfl) (by kernel_rfl) (fun _ _ _ h=>h) (Or.inl ⟨by rfl,?_⟩) (by assumption) ?_
 rotate_left
 ·(intro w hSw;(try dsimp only at hSw);go_simp <;> with_reducible rfl)
 simp only[List.getElem_toArray,List.getElem_cons_zero,List.getElem_cons_succ,Act.put,List.setIfInBounds_toArray,List.set_cons_zero,List.set_cons_succ]
 refine wpAnyH_take (i:=7) (v:=?_) rfl (by kernel_rfl) (by kernel_rfl) (by kernel_rfl) (fun _ _ _ h=>h) (Or.inl ⟨by rfl,?_⟩) (by assumption) ?_
 rotate_left
 ·(intro w hSw;(try dsimp only at hSw);go_simp <;> with_reducible rfl)
 simp only[List.getElem_toArray,List.getElem_cons_zero,List.getElem_cons_succ,Act.put,List.setIfInBounds_toArray,List.set_cons_zero,List.set_cons_succ]
 refine wpAnyH_take (i:=8) (v:=?_) rfl (by kernel_rfl) (by kernel_rfl) (by kernel_rfl) (fun _ _ _ h=>h) (Or.inl ⟨by rfl,?_⟩) (by assumption) ?_
 rotate_left
 ·(intro w hSw;(try dsimp only at hSw);go_simp <;> with_reducible rfl)
 simp only[List.getElem_toArray,List.getElem_cons_zero,List.getElem_cons_succ,Act.put,List.setIfInBounds_toArray,List.set_cons_zero,List.set_cons_succ]
 refine wpAnyH_take (i:=9) (v:=?_) rfl (by kernel_rfl) (by kernel_rfl) (by kernel_rfl) (fun _ _ _ h=>h) (Or.inl ⟨by rfl,?_⟩) (by assumption) ?_
 rotate_left
 ·(intro w hSw;(try dsimp only at hSw);go_simp <;> with_reducible rfl)
 simp only[List.getElem_toArray,List.getElem_cons_zero,List.getElem_cons_succ,Act.put,List.setIfInBounds_toArray,List.set_cons_zero,List.set_cons_succ]
 refine wpAnyH_take (i:=10) (v:=?_) rfl (by kernel_rfl) (by kernel_rfl) (by kernel_rfl) (fun _ _ _ h=>h) (Or.inl ⟨by rfl,?_⟩) (by assumption) ?_
 rotate_left
 ·(intro w hSw;(try dsimp only at hSw);go_simp <;> with_reducible rfl)
 simp only[List.getElem_toArray,List.getElem_cons_zero,List.getElem_cons_succ,Act.put,List.setIfInBounds_toArray,List.set_cons_zero,List.set_cons_succ]
 refine wpAnyH_take (i:=11) (v:=?_) rfl (by kernel_rfl) (by kernel_rfl) (by kernel_rfl) (fun _ _ _ h=>h) (Or.inl ⟨by rfl,?_⟩) (by assumption) ?_
 rotate_left
 ·(intro w hSw;(try dsimp only at hSw);go_simp <;> with_reducible rfl)
 simp only[List.getElem_toArray,List.getElem_cons_zero,List.getElem_cons_succ,Act.put,List.setIfInBounds_toArray,List.set_cons_zero,List.set_cons_succ]
 refine wpAnyH_ready (rs:=[12]) (by kernel_rfl) (by simp) ?_
 refine AllReadyH.cons rfl (fun K hK=>?_) ?_
 rotate_left
 ·exact AllReadyH.nil
 go_simp
 go_at_call 53
 refine (CC _ (below_drewN (Below.refl _ _) 1)).mono ?_
 rintro e w9 ⟨rfl,b9d⟩
 have b9:Below W3.heap.size W3 w9:=(Below.refl _ _).drew.trans b9d
 have h9:=h3.below b9 (by omega)
 have r9:=(b9.block (w.heap.size+1) (by omega)).trans rn3
 have ra9:=(b9.block w.heap.size (by omega)).trans ra3
 have q9:∀ j,w9.cell? ⟨w.heap.size+1,j,none⟩=(#[.int .i64 1,.int .i64 3,.int .i64 (p:Int),.int .i64 0,.string ⟨#[]⟩,.string ⟨#[]⟩,.string ⟨#[]⟩,.slice none 0 0,.slice none 0 0,.slice none 0 0,.bool false,.string ⟨#[]⟩]:Array Value)[j]?:=fun j=>cell_of_row w9 _ j _ _ _ r9
 have f9:∀ j,w9.frozen? ⟨w.heap.size+1,j,none⟩=false:=fun j=>frozen_of_row w9 _ j _ _ r9
 refine hK.out _ _ ?_ (fun hHeld=>?_)
 ·exact ⟨h9.cell 0,h9.cell 1,h9.cell 2⟩
 clear hK K
 refine wpAnyH_take (i:=13) (v:=?_) rfl (by kernel_rfl) (by kernel_rfl) (by kernel_rfl) (fun _ _ _ h=>h) (Or.inl ⟨by rfl,?_⟩) (by assumption) ?_
 rotate_left
 ·(intro w hSw;(try dsimp only at hSw);go_simp <;> with_reducible rfl)
 simp only[List.getElem_toArray,List.getElem_cons_zero,List.getElem_cons_succ,Act.put,List.setIfInBounds_toArray,List.set_cons_zero,List.set_cons_succ]
 refine wpAnyH_take (i:=14) (v:=?_) rfl (by kernel_rfl) (by kernel_rfl) (by kernel_rfl) (fun _ _ _ h=>h) (Or.inl ⟨by rfl,?_⟩) (by assumption) ?_
 rotate_left
 ·(intro w hSw;(try dsimp only at hSw);go_simp <;> with_reducible rfl)
 simp only[List.getElem_toArray,List.getElem_cons_zero,List.getElem_cons_succ,Act.put,List.setIfInBounds_toArray,List.set_cons_zero,List.set_cons_succ]
 refine wpAnyH_take (i:=15) (v:=?_) rfl (by kernel_rfl) (by kernel_rfl) (by kernel_rfl) (fun _ _ _ h=>h) (Or.inl ⟨by rfl,?_⟩) (by assumption) ?_
 rotate_left
 ·(intro w hSw;(try dsimp only at hSw);go_simp <;> with_reducible rfl)
 simp only[List.getElem_toArray,List.getElem_cons_zero,List.getElem_cons_succ,Act.put,List.setIfInBounds_toArray,List.set_cons_zero,List.set_cons_succ]
 refine wpAnyH_take (i:=16) (v:=?_) rfl (by kernel_rfl) (by kernel_rfl) (by kernel_rfl) (fun _ _ _ h=>h) (Or.inl ⟨by rfl,?_⟩) (by assumption) ?_
 rotate_left
 ·(intro w hSw;(try dsimp only at hSw);go_simp <;> with_reducible rfl)
 simp only[List.getElem_toArray,List.getElem_cons_zero,List.getElem_cons_succ,Act.put,List.setIfInBounds_toArray,List.set_cons_zero,List.set_cons_succ]
 refine wpAnyH_take (i:=17) (v:=?_) rfl (by kernel_rfl) (by kernel_rfl) (by kernel_rfl) (fun _ _ _ h=>h) (Or.inl ⟨by rfl,?_⟩) (by assumption) ?_
 rotate_left
 ·(intro w hSw;(try dsimp only at hSw);go_simp <;> with_reducible rfl)
 simp only[List.getElem_toArray,List.getElem_cons_zero,List.getElem_cons_succ,Act.put,List.setIfInBounds_toArray,List.set_cons_zero,List.set_cons_succ]
 refine wpAnyH_take (i:=18) (v:=?_) rfl (by kernel_rfl) (by kernel_rfl) (by kernel_rfl) (fun _ _ _ h=>h) (Or.inl ⟨by rfl,?_⟩) (by assumption) ?_
 rotate_left
 ·(intro w hSw;(try dsimp only at hSw);go_simp <;> with_reducible rfl)
 simp only[List.getElem_toArray,List.getElem_cons_zero,List.getElem_cons_succ,Act.put,List.setIfInBounds_toArray,List.set_cons_zero,List.set_cons_succ]
 refine wpAnyH_ready (rs:=[19]) (by kernel_rfl) (by simp) ?_
 refine AllReadyH.cons rfl (fun K hK=>?_) ?_
 rotate_left
 ·exact AllReadyH.nil
 go_simp
 refine hK.out _ _ ?_ (fun hHeld=>?_)
 ·exact ⟨(World.cell?_setCell_other w9 ⟨w.heap.size+1,6,none⟩ ⟨g,0,none⟩ (.string X) (fun e=>hgn (congrArg Addr.block e).symm)).trans hHeld.1,(World.cell?_setCell_other w9 ⟨w.heap.size+1,6,none⟩ ⟨g,1,none⟩ (.string X) (fun e=>hgn (congrArg Addr.block e).symm)).trans hHeld.2.1,(World.cell?_setCell_other w9 ⟨w.heap.size+1,6,none⟩ ⟨g,2,none⟩ (.string X) (fun e=>hgn (congrArg Addr.block e).symm)).trans hHeld.2.2⟩
 clear hK K
 refine wpAnyH_take (i:=20) (v:=?_) rfl (by kernel_rfl) (by kernel_rfl) (by kernel_rfl) (fun _ _ _ h=>h) (Or.inl ⟨by rfl,?_⟩) (by assumption) ?_
 rotate_left
 ·(intro w hSw;(try dsimp only at hSw);go_simp <;> with_reducible rfl)
 simp only[List.getElem_toArray,List.getElem_cons_zero,List.getElem_cons_succ,Act.put,List.setIfInBounds_toArray,List.set_cons_zero,List.set_cons_succ]
 refine wpAnyH_take (i:=21) (v:=?_) rfl (by kernel_rfl) (by kernel_rfl) (by kernel_rfl) (fun _ _ _ h=>h) (Or.inl ⟨by rfl,?_⟩) (by assumption) ?_
 rotate_left
 ·(intro w hSw;(try dsimp only at hSw);go_simp <;> with_reducible rfl)
 simp only[List.getElem_toArray,List.getElem_cons_zero,List.getElem_cons_succ,Act.put,List.setIfInBounds_toArray,List.set_cons_zero,List.set_cons_succ]
 refine wpAnyH_done (by kernel_rfl) ?_ _
 refine NoPanic.normal ?_
 obtain ⟨w10,hw10⟩:∃ w10,w10=w9.setCell ⟨w.heap.size+1,6,none⟩ (.string X):=⟨_,rfl⟩
 have r10:w10.heap[w.heap.size+1]?=some (.cells #[.int .i64 1,.int .i64 3,.int .i64 (p:Int),.int .i64 0,.string ⟨#[]⟩,.string ⟨#[]⟩,.string X,.slice none 0 0,.slice none 0 0,.slice none 0 0,.bool false,.string ⟨#[]⟩] 30 (0,0)):=by rw[hw10];exact heap_setCell_same _ _ 6 _ _ _ r9
 have s10:∀ k,k≠w.heap.size+1→w10.heap[k]?=w9.heap[k]?:=fun k hk=>by rw[hw10];exact heap_setCell_other w9 _ _ _ hk
 have z10:w10.heap.size=w9.heap.size:=by rw[hw10];simp[World.setCell]
 have o10:w10.os=w9.os∧w10.tape=w9.tape∧w10.output=w9.output:=by rw[hw10];exact ⟨rfl,rfl,rfl⟩
 rw[←hw10]
 clear hw10 hHeld
 have H10:FlAt g s n (p:Int) (fin:Int) (.slice none 0 0) false w10:=(s10 g hgn).trans h9
 have ra10:=(s10 w.heap.size (by omega)).trans ra9
 have sz9:=b9.size
 go_wp2_with (go_at_call 18;refine (flPass_is g s n _ _ (E:Int) (.slice none 0 0) false _ H10).mono ?_;rintro e w11 ⟨rfl,hA11,hg11,hz11⟩;have r11:=(hg11.block (w.heap.size+1) (by omega) (fun e=>hgn (by injection e with e;exact e.symm))).trans r10;have ra11:=(hg11.block w.heap.size (by omega) (fun e=>Nat.ne_of_lt hg (by injection e with e;exact e.symm))).trans ra10;have q11:∀ j,w11.cell? ⟨w.heap.size+1,j,none⟩=(#[.int .i64 1,.int .i64 3,.int .i64 (p:Int),.int .i64 0,.string ⟨#[]⟩,.string ⟨#[]⟩,.string X,.slice none 0 0,.slice none 0 0,.slice none 0 0,.bool false,.string ⟨#[]⟩]:Array Value)[j]?:=fun j=>cell_of_row w11 _ j _ _ _ r11;have qa11:∀ j,w11.cell? ⟨w.heap.size,j,none⟩=(#[.int .i64 0,.int .i64 0,.int .i64 0,.int .i64 0,.string ⟨#[]⟩,.string ⟨#[]⟩,.string ⟨#[]⟩,.slice none 0 0,.slice none 0 0,.slice none 0 0,.bool false,.string ⟨#[]⟩]:Array Value)[j]?:=fun j=>cell_of_row w11 _ j _ _ _ ra11;have fa11:∀ j,w11.frozen? ⟨w.heap.size,j,none⟩=false:=fun j=>frozen_of_row w11 _ j _ _ ra11)
 obtain ⟨w12,hw12⟩:∃ w12,w12=((((((((((((w11.setCell ⟨w.heap.size,0,none⟩ (.int .i64 1)).setCell ⟨w.heap.size,1,none⟩ (.int .i64 3)).setCell ⟨w.heap.size,2,none⟩ (.int .i64 (p:Int))).setCell ⟨w.heap.size,3,none⟩ (.int .i64 0)).setCell ⟨w.heap.size,4,none⟩ (.string ⟨#[]⟩)).setCell ⟨w.heap.size,5,none⟩ (.string ⟨#[]⟩)).setCell ⟨w.heap.size,6,none⟩ (.string X)).setCell ⟨w.heap.size,7,none⟩ (.slice none 0 0)).setCell ⟨w.heap.size,8,none⟩ (.slice none 0 0)).setCell ⟨w.heap.size,9,none⟩ (.slice none 0 0)).setCell ⟨w.heap.size,10,none⟩ (.bool false)).setCell ⟨w.heap.size,11,none⟩ (.string ⟨#[]⟩)):=⟨_,rfl⟩
 have r12:w12.heap[w.heap.size]?=some (.cells #[.int .i64 1,.int .i64 3,.int .i64 (p:Int),.int .i64 0,.string ⟨#[]⟩,.string ⟨#[]⟩,.string X,.slice none 0 0,.slice none 0 0,.slice none 0 0,.bool false,.string ⟨#[]⟩] 30 (0,0)):=by rw[hw12];exact row12_set w11 (hg:=ra11) ..
 have b12:Below w.heap.size w11 w12:=by rw[hw12];exact row12_below w11 _ _ (Nat.le_refl _) _ _ _ _ _ _ _ _ _ _ _ _
 have z12:w12.heap.size=w11.heap.size:=by rw[hw12,row12_size]
 rw[←hw12]
 clear hw12
 have hcz:∀ j,w12.cell? ⟨w.heap.size,j,none⟩=(#[.int .i64 1,.int .i64 3,.int .i64 (p:Int),.int .i64 0,.string ⟨#[]⟩,.string ⟨#[]⟩,.string X,.slice none 0 0,.slice none 0 0,.slice none 0 0,.bool false,.string ⟨#[]⟩]:Array Value)[j]?:=fun j=>cell_of_row w12 _ j _ _ _ r12
 have A12:FlAt g s n (E:Int) (E:Int) (.slice none 0 0) false w12:=hA11.below b12 hg
 have K12:Keep (Lv w.heap.size g []) w w12:=by
  refine ⟨b12.os.trans (hg11.os.trans (o10.1.trans (b9.os.trans b3.os))),b12.tape.trans (hg11.tape.trans (o10.2.1.trans (b9.tape.trans b3.tape))),b12.output.trans (hg11.output.trans (o10.2.2.trans (b9.output.trans b3.output))),by omega,fun k hk=>?_⟩
  rw[b12.block k hk.1,hg11.block k (by have:=hk.1;omega) (fun e=>hk.2.1 (by injection e)),s10 k (by have:=hk.1;omega),b9.block k (by have:=hk.1;omega),b3.block k hk.1]
 refine bodyPost_ret (v:=.tuple #[.agg #[.int .i64 1,.int .i64 3,.int .i64 (p:Int),.int .i64 0,.string ⟨#[]⟩,.string ⟨#[]⟩,.string X,.slice none 0 0,.slice none 0 0,.slice none 0 0,.bool false,.string ⟨#[]⟩],.int .i64 C]) (by simp[results,Tryz.results37,go_sem,hcz]) rfl ?_
 have HXe:=HX.out
 subst HXe
 exact ⟨_,C,rfl,_,_,_,_,scalar_M K12 ⟨A12,HasV.nil 2 _,(fun e=>by cases e),fresh_ok hE⟩ ho⟩
set_option maxRecDepth 100000 in
set_option maxHeartbeats 3200000 in
theorem flContent_plain (w0:World) (g:Nat) (s:ByteArray) (hs:s.size≤10000) (n:Int) (deep p fin:Nat) (T:List UInt8) (E:Nat) (O:Bool) (c:Nat) (C:Int) (o:Rd (NT × Rst)) (w:World) (h:RS g s n ⟨[],false,fin,p⟩ (.slice none 0 0) w) (hB:Bs w0 w []) (hpc:pkN s p=c) (n1:c≠91) (n2:c≠123) (n3:c≠42) (n4:c≠39) (n5:c≠34) (hZ:PlaiZ s (p:Int) n true T (E:Int) O C) (hE:E≤s.size) (ho:o=if C=0 then .ok (.mk ⟨1,1,p,0,[],[],T,[],[],false,[]⟩ [],fresh E) else .bad E C) :
  Calls Tryz.prog 37 #[.pointer (some ⟨g,0,none⟩),.int .i64 (deep:Int)] w fun e w'=>NodePost g s n w [] o e w':=by
 have e1:((c:Int)==91)=false:=by rw[beq_eq_false_iff_ne];omega
 have e2:((c:Int)==123)=false:=by rw[beq_eq_false_iff_ne];omega
 have e3:((c:Int)==42)=false:=by rw[beq_eq_false_iff_ne];omega
 have e4:((c:Int)==39)=false:=by rw[beq_eq_false_iff_ne];omega
 have e5:((c:Int)==34)=false:=by rw[beq_eq_false_iff_ne];omega
 have CP:=fun W H=>flPeek_is c g s n p (fin:Int) (.slice none 0 0) false W H (by omega) hpc
 have hA:=h.cells
 have hg:=hA.lt
 have hc:=hA.cell
 obtain ⟨W1,hW1⟩:∃ W1,W1=(w.alloc (.cells #[.int .i64 0,.int .i64 0,.int .i64 0,.int .i64 0,.string ⟨#[]⟩,.string ⟨#[]⟩,.string ⟨#[]⟩,.slice none 0 0,.slice none 0 0,.slice none 0 0,.bool false,.string ⟨#[]⟩] 30)).alloc (.cells #[.int .i64 1,.int .i64 1,.int .i64 (p:Int),.int .i64 0,.string ⟨#[]⟩,.string ⟨#[]⟩,.string ⟨#[]⟩,.slice none 0 0,.slice none 0 0,.slice none 0 0,.bool false,.string ⟨#[]⟩] 30):=⟨_,rfl⟩
 have z1:W1.heap.size=w.heap.size+2:=by rw[hW1];simp
 have b1:Below w.heap.size w W1:=by rw[hW1];exact ((Below.refl _ _).alloc (Nat.le_refl _) _).alloc (by simp) _
 have ra:W1.heap[w.heap.size]?=some (.cells #[.int .i64 0,.int .i64 0,.int .i64 0,.int .i64 0,.string ⟨#[]⟩,.string ⟨#[]⟩,.string ⟨#[]⟩,.slice none 0 0,.slice none 0 0,.slice none 0 0,.bool false,.string ⟨#[]⟩] 30 (0,0)):=by rw[hW1];exact (heap_alloc_old _ _ (by simp)).trans (heap_alloc_new w _)
 have rn:W1.heap[w.heap.size+1]?=some (.cells #[.int .i64 1,.int .i64 1,.int .i64 (p:Int),.int .i64 0,.string ⟨#[]⟩,.string ⟨#[]⟩,.string ⟨#[]⟩,.slice none 0 0,.slice none 0 0,.slice none 0 0,.bool false,.string ⟨#[]⟩] 30 (0,0)):=by
  rw[hW1]
  have:=heap_alloc_new (w.alloc (.cells #[.int .i64 0,.int .i64 0,.int .i64 0,.int .i64 0,.string ⟨#[]⟩,.string ⟨#[]⟩,.string ⟨#[]⟩,.slice none 0 0,.slice none 0 0,.slice none 0 0,.bool false,.string ⟨#[]⟩] 30)) (.cells #[.int .i64 1,.int .i64 1,.int .i64 (p:Int),.int .i64 0,.string ⟨#[]⟩,.string ⟨#[]⟩,.string ⟨#[]⟩,.slice none 0 0,.slice none 0 0,.slice none 0 0,.bool false,.string ⟨#[]⟩] 30)
  simpa using this
 have h1:=hA.below b1 hg
 have HW:=Lib.hid hW1
 have B1:=hB.below.trans (b1.mono hB.below.size)
 clear hW1 hA
 go_enter Tryz.func37,Tryz.ntmps37
 go_wp2_with fail
 rw[←HW.out]
 refine (CP _ h1).mono ?_
 rintro e w2 ⟨rfl,j1,rfl⟩
 obtain ⟨W2,hW2⟩:∃ W2,W2=W1.drewN j1:=⟨_,rfl⟩
 have h2:FlAt g s n (p:Int) (fin:Int) (.slice none 0 0) false W2:=by rw[hW2];exact h1.drewN j1
 have b2:Below w.heap.size w W2:=by rw[hW2];exact below_drewN b1 j1
 have B2:Below w0.heap.size w0 W2:=by rw[hW2];exact below_drewN B1 j1
 have z2:W2.heap.size=w.heap.size+2:=by rw[hW2];exact z1
 have ra2:W2.heap[w.heap.size]?=some (.cells #[.int .i64 0,.int .i64 0,.int .i64 0,.int .i64 0,.string ⟨#[]⟩,.string ⟨#[]⟩,.string ⟨#[]⟩,.slice none 0 0,.slice none 0 0,.slice none 0 0,.bool false,.string ⟨#[]⟩] 30 (0,0)):=by rw[hW2];exact ra
 have rn2:W2.heap[w.heap.size+1]?=some (.cells #[.int .i64 1,.int .i64 1,.int .i64 (p:Int),.int .i64 0,.string ⟨#[]⟩,.string ⟨#[]⟩,.string ⟨#[]⟩,.slice none 0 0,.slice none 0 0,.slice none 0 0,.bool false,.string ⟨#[]⟩] 30 (0,0)):=by rw[hW2];exact rn
 rw[←hW2]
 clear hW2 h1 b1 B1 z1 ra rn HW CP hc
 have qn2:∀ j,W2.cell? ⟨w.heap.size+1,j,none⟩=(#[.int .i64 1,.int .i64 1,.int .i64 (p:Int),.int .i64 0,.string ⟨#[]⟩,.string ⟨#[]⟩,.string ⟨#[]⟩,.slice none 0 0,.slice none 0 0,.slice none 0 0,.bool false,.string ⟨#[]⟩]:Array Value)[j]?:=fun j=>cell_of_row W2 _ j _ _ _ rn2
 have fn2:∀ j,W2.frozen? ⟨w.heap.size+1,j,none⟩=false:=fun j=>frozen_of_row W2 _ j _ _ rn2
 have hgn:g≠w.heap.size+1:=by omega
 go_wp2_with fail
 obtain ⟨W3,hW3⟩:∃ W3,W3=W2:=⟨_,rfl⟩
 have rn3:W3.heap[w.heap.size+1]?=some (.cells #[.int .i64 1,.int .i64 1,.int .i64 (p:Int),.int .i64 0,.string ⟨#[]⟩,.string ⟨#[]⟩,.string ⟨#[]⟩,.slice none 0 0,.slice none 0 0,.slice none 0 0,.bool false,.string ⟨#[]⟩] 30 (0,0)):=by rw[hW3];exact rn2
 have hset3:∀ k,k≠w.heap.size+1→W3.heap[k]?=W2.heap[k]?:=fun k hk=>by rw[hW3]
 have z3:W3.heap.size=w.heap.size+2:=by rw[hW3];exact z2
 have b3:Below w.heap.size w W3:=by rw[hW3];exact b2
 have B3:Below w0.heap.size w0 W3:=by have:=hB.below.size;rw[hW3];exact B2
 have h3:FlAt g s n (p:Int) (fin:Int) (.slice none 0 0) false W3:=(hset3 g hgn).trans h2
 have ra3:=(hset3 w.heap.size (by omega)).trans ra2
 rw[←hW3]
 clear hW3 hset3 h2 b2 B2 z2 ra2 rn2 qn2 fn2
 have c3:=h3.cell
 have hS3:W3.drew.cell? ⟨g,0,none⟩=some (.string s)∧W3.drew.cell? ⟨g,1,none⟩=some (.int .i64 n)∧W3.drew.cell? ⟨g,2,none⟩=some (.int .i64 (p:Int)):=⟨c3 0,c3 1,c3 2⟩
 have CC:∀ W,Below W3.heap.size W3 W→Calls Tryz.prog 54 #[.string s,.int .i64 (p:Int),.int .i64 n,.bool true] W fun e w'=>e=.returned (.tuple #[.string ⟨T.toArray⟩,.int .i64 (E:Int),.bool O,.int .i64 C])∧Below W.heap.size W w':=fun W hW=>plaiRead_is T (E:Int) O C s (p:Int) n true W (by omega) hZ
 have hX:∃ X:ByteArray,X=⟨T.toArray⟩:=⟨_,rfl⟩
 obtain ⟨X,hX⟩:=hX
 rw[←hX] at CC
 have HX:=Lib.hid hX
 clear hX
 refine wp_region_noPanic ?_
 refine wp_region_held_drew (S:=fun w'=>(w'.cell? ⟨g,0,none⟩=some (.string s)∧w'.cell? ⟨g,1,none⟩=some (.int .i64 n)∧w'.cell? ⟨g,2,none⟩=some (.int .i64 (p:Int)))) (by kernel_rfl) ?_ (fun hHeld=>?_)
 ·exact hS3
 refine wpAnyH_take (i:=0) (v:=?_) rfl (by kernel_rfl) (by kernel_rfl) (by kernel_rfl) (fun _ _ _ h=>h) (Or.inl ⟨by rfl,?_⟩) (by assumption) ?_
 rotate_left
 ·(intro w hSw;(try dsimp only at hSw);go_simp <;> with_reducible rfl)
 simp only[List.getElem_toArray,List.getElem_cons_zero,Act.put,List.setIfInBounds_toArray,List.set_cons_zero,List.set_cons_succ]
 refine wpAnyH_take (i:=1) (v:=?_) rfl (by kernel_rfl) (by kernel_rfl) (by kernel_rfl) (fun _ _ _ h=>h) (Or.inl ⟨by rfl,?_⟩) (by assumption) ?_
 rotate_left
 ·(intro w hSw;(try dsimp only at hSw);go_simp <;> with_reducible rfl)
 simp only[List.getElem_toArray,List.getElem_cons_zero,List.getElem_cons_succ,Act.put,List.setIfInBounds_toArray,List.set_cons_zero,List.set_cons_succ]
 refine wpAnyH_take (i:=2) (v:=?_) rfl (by kernel_rfl) (by kernel_rfl) (by kernel_rfl) (fun _ _ _ h=>h) (Or.inl ⟨by rfl,?_⟩) (by assumption) ?_
 rotate_left
 ·(intro w hSw;(try dsimp only at hSw);go_simp <;> with_reducible rfl)
 simp only[List.getElem_toArray,List.getElem_cons_zero,List.getElem_cons_succ,Act.put,List.setIfInBounds_toArray,List.set_cons_zero,List.set_cons_succ]
 refine wpAnyH_take (i:=3) (v:=?_) rfl (by kernel_rfl) (by kernel_rfl) (by kernel_rfl) (fun _ _ _ h=>h) (Or.inl ⟨by rfl,?_⟩) (by assumption) ?_
 rotate_left
 ·(intro w hSw;(try dsimp only at hSw);go_simp <;> with_reducible rfl)
 simp only[List.getElem_toArray,List.getElem_cons_zero,List.getElem_cons_succ,Act.put,List.setIfInBounds_toArray,List.set_cons_zero,List.set_cons_succ]
 refine wpAnyH_take (i:=4) (v:=?_) rfl (by kernel_rfl) (by kernel_rfl) (by kernel_rfl) (fun _ _ _ h=>h) (Or.inl ⟨by rfl,?_⟩) (by assumption) ?_
 rotate_left
 ·(intro w hSw;(try dsimp only at hSw);go_simp <;> with_reducible rfl)
 simp only[List.getElem_toArray,List.getElem_cons_zero,List.getElem_cons_succ,Act.put,List.setIfInBounds_toArray,List.set_cons_zero,List.set_cons_succ]
 refine wpAnyH_take (i:=5) (v:=?_) rfl (by kernel_rfl) (by kernel_rfl) (by kernel_rfl) (fun _ _ _ h=>h) (Or.inl ⟨by rfl,?_⟩) (by assumption) ?_
 rotate_left
 ·(intro w hSw;(try dsimp only at hSw);go_simp <;> with_reducible rfl)
 simp only[List.getElem_toArray,List.getElem_cons_zero,List.getElem_cons_succ,Act.put,List.setIfInBounds_toArray,List.set_cons_zero,List.set_cons_succ]
 refine wpAnyH_take (i:=6) (v:=?_) rfl (by kernel_rfl) (by kernel_rfl) (by kernel_rfl) (fun _ _ _ h=>h) (Or.inl ⟨by rfl,?_⟩) (by assumption) ?_
 rotate_left
 ·(intro w hSw;(try dsimp only at hSw);go_simp <;> with_reducible rfl)
 simp only[List.getElem_toArray,List.getElem_cons_zero,List.getElem_cons_succ,Act.put,List.setIfInBounds_toArray,List.set_cons_zero,List.set_cons_succ]
 refine wpAnyH_take (i:=7) (v:=?_) rfl (by kernel_rfl) (by kernel_rfl) (by kernel_rfl) (fun _ _ _ h=>h) (Or.inl ⟨by rfl,?_⟩) (by assumption) ?_
 rotate_left
 ·(intro w hSw;(try dsimp only at hSw);go_simp <;> with_reducible rfl)
 simp only[List.getElem_toArray,List.getElem_cons_zero,List.getElem_cons_succ,Act.put,List.setIfInBounds_toArray,List.set_cons_zero,List.set_cons_succ]
 refine wpAnyH_take (i:=8) (v:=?_) rfl (by kernel_rfl) (by kernel_rfl) (by kernel_rfl) (fun _ _ _ h=>h) (Or.inl ⟨by rfl,?_⟩) (by assumption) ?_
 rotate_left
 ·(intro w hSw;(try dsimp only at hSw);go_simp <;> with_reducible rfl)
 simp only[List.getElem_toArray,List.getElem_cons_zero,List.getElem_cons_succ,Act.put,List.setIfInBounds_toArray,List.set_cons_zero,List.set_cons_succ]
 refine wpAnyH_take (i:=9) (v:=?_) rfl (by kernel_rfl) (by kernel_rfl) (by kernel_rfl) (fun _ _ _ h=>h) (Or.inl ⟨by rfl,?_⟩) (by assumption) ?_
 rotate_left
 ·(intro w hSw;(try dsimp only at hSw);go_simp <;> with_reducible rfl)
 simp only[List.getElem_toArray,List.getElem_cons_zero,List.getElem_cons_succ,Act.put,List.setIfInBounds_toArray,List.set_cons_zero,List.set_cons_succ]
 refine wpAnyH_take (i:=10) (v:=?_) rfl (by kernel_rfl) (by kernel_rfl) (by kernel_rfl) (fun _ _ _ h=>h) (Or.inl ⟨by rfl,?_⟩) (by assumption) ?_
 rotate_left
 ·(intro w hSw;(try dsimp only at hSw);go_simp <;> with_reducible rfl)
 simp only[List.getElem_toArray,List.getElem_cons_zero,List.getElem_cons_succ,Act.put,List.setIfInBounds_toArray,List.set_cons_zero,List.set_cons_succ]
 refine wpAnyH_take (i:=11) (v:=?_) rfl (by kernel_rfl) (by kernel_rfl) (by kernel_rfl) (fun _ _ _ h=>h) (Or.inl ⟨by rfl,?_⟩) (by assumption) ?_
 rotate_left
 ·(intro w hSw;(try dsimp only at hSw);go_simp <;> with_reducible rfl)
 simp only[List.getElem_toArray,List.getElem_cons_zero,List.getElem_cons_succ,Act.put,List.setIfInBounds_toArray,List.set_cons_zero,List.set_cons_succ]
 refine wpAnyH_ready (rs:=[12]) (by kernel_rfl) (by simp) ?_
 refine AllReadyH.cons rfl (fun K hK=>?_) ?_
 rotate_left
 ·exact AllReadyH.nil
 go_simp
 go_at_call 54
 refine (CC _ (below_drewN (Below.refl _ _) 1)).mono ?_
 rintro e w9 ⟨rfl,b9d⟩
 have b9:Below W3.heap.size W3 w9:=(Below.refl _ _).drew.trans b9d
 have h9:=h3.below b9 (by omega)
 have r9:=(b9.block (w.heap.size+1) (by omega)).trans rn3
 have ra9:=(b9.block w.heap.size (by omega)).trans ra3
 have q9:∀ j,w9.cell? ⟨w.heap.size+1,j,none⟩=(#[.int .i64 1,.int .i64 1,.int .i64 (p:Int),.int .i64 0,.string ⟨#[]⟩,.string ⟨#[]⟩,.string ⟨#[]⟩,.slice none 0 0,.slice none 0 0,.slice none 0 0,.bool false,.string ⟨#[]⟩]:Array Value)[j]?:=fun j=>cell_of_row w9 _ j _ _ _ r9
 have f9:∀ j,w9.frozen? ⟨w.heap.size+1,j,none⟩=false:=fun j=>frozen_of_row w9 _ j _ _ r9
 refine hK.out _ _ ?_ (fun hHeld=>?_)
 ·exact ⟨h9.cell 0,h9.cell 1,h9.cell 2⟩
 clear hK K
 refine wpAnyH_take (i:=13) (v:=?_) rfl (by kernel_rfl) (by kernel_rfl) (by kernel_rfl) (fun _ _ _ h=>h) (Or.inl ⟨by rfl,?_⟩) (by assumption) ?_
 rotate_left
 ·(intro w hSw;(try dsimp only at hSw);go_simp <;> with_reducible rfl)
 simp only[List.getElem_toArray,List.getElem_cons_zero,List.getElem_cons_succ,Act.put,List.setIfInBounds_toArray,List.set_cons_zero,List.set_cons_succ]
 refine wpAnyH_take (i:=14) (v:=?_) rfl (by kernel_rfl) (by kernel_rfl) (by kernel_rfl) (fun _ _ _ h=>h) (Or.inl ⟨by rfl,?_⟩) (by assumption) ?_
 rotate_left
 ·(intro w hSw;(try dsimp only at hSw);go_simp <;> with_reducible rfl)
 simp only[List.getElem_toArray,List.getElem_cons_zero,List.getElem_cons_succ,Act.put,List.setIfInBounds_toArray,List.set_cons_zero,List.set_cons_succ]
 refine wpAnyH_take (i:=15) (v:=?_) rfl (by kernel_rfl) (by kernel_rfl) (by kernel_rfl) (fun _ _ _ h=>h) (Or.inl ⟨by rfl,?_⟩) (by assumption) ?_
 rotate_left
 ·(intro w hSw;(try dsimp only at hSw);go_simp <;> with_reducible rfl)
 simp only[List.getElem_toArray,List.getElem_cons_zero,List.getElem_cons_succ,Act.put,List.setIfInBounds_toArray,List.set_cons_zero,List.set_cons_succ]
 refine wpAnyH_take (i:=16) (v:=?_) rfl (by kernel_rfl) (by kernel_rfl) (by kernel_rfl) (fun _ _ _ h=>h) (Or.inl ⟨by rfl,?_⟩) (by assumption) ?_
 rotate_left
 ·(intro w hSw;(try dsimp only at hSw);go_simp <;> with_reducible rfl)
 simp only[List.getElem_toArray,List.getElem_cons_zero,List.getElem_cons_succ,Act.put,List.setIfInBounds_toArray,List.set_cons_zero,List.set_cons_succ]
 refine wpAnyH_take (i:=17) (v:=?_) rfl (by kernel_rfl) (by kernel_rfl) (by kernel_rfl) (fun _ _ _ h=>h) (Or.inl ⟨by rfl,?_⟩) (by assumption) ?_
 rotate_left
 ·(intro w hSw;(try dsimp only at hSw);go_simp <;> with_reducible rfl)
 simp only[List.getElem_toArray,List.getElem_cons_zero,List.getElem_cons_succ,Act.put,List.setIfInBounds_toArray,List.set_cons_zero,List.set_cons_succ]
 refine wpAnyH_take (i:=18) (v:=?_) rfl (by kernel_rfl) (by kernel_rfl) (by kernel_rfl) (fun _ _ _ h=>h) (Or.inl ⟨by rfl,?_⟩) (by assumption) ?_
 rotate_left
 ·(intro w hSw;(try dsimp only at hSw);go_simp <;> with_reducible rfl)
 simp only[List.getElem_toArray,List.getElem_cons_zero,List.getElem_cons_succ,Act.put,List.setIfInBounds_toArray,List.set_cons_zero,List.set_cons_succ]
 refine wpAnyH_ready (rs:=[19]) (by kernel_rfl) (by simp) ?_
 refine AllReadyH.cons rfl (fun K hK=>?_) ?_
 rotate_left
 ·exact AllReadyH.nil
 go_simp
 refine hK.out _ _ ?_ (fun hHeld=>?_)
 ·exact ⟨(World.cell?_setCell_other w9 ⟨w.heap.size+1,6,none⟩ ⟨g,0,none⟩ (.string X) (fun e=>hgn (congrArg Addr.block e).symm)).trans hHeld.1,(World.cell?_setCell_other w9 ⟨w.heap.size+1,6,none⟩ ⟨g,1,none⟩ (.string X) (fun e=>hgn (congrArg Addr.block e).symm)).trans hHeld.2.1,(World.cell?_setCell_other w9 ⟨w.heap.size+1,6,none⟩ ⟨g,2,none⟩ (.string X) (fun e=>hgn (congrArg Addr.block e).symm)).trans hHeld.2.2⟩
 clear hK K
 refine wpAnyH_take (i:=20) (v:=?_) rfl (by kernel_rfl) (by kernel_rfl) (by kernel_rfl) (fun _ _ _ h=>h) (Or.inl ⟨by rfl,?_⟩) (by assumption) ?_
 rotate_left
 ·(intro w hSw;(try dsimp only at hSw);go_simp <;> with_reducible rfl)
 simp only[List.getElem_toArray,List.getElem_cons_zero,List.getElem_cons_succ,Act.put,List.setIfInBounds_toArray,List.set_cons_zero,List.set_cons_succ]
 refine wpAnyH_take (i:=21) (v:=?_) rfl (by kernel_rfl) (by kernel_rfl) (by kernel_rfl) (fun _ _ _ h=>h) (Or.inl ⟨by rfl,?_⟩) (by assumption) ?_
 rotate_left
 ·(intro w hSw;(try dsimp only at hSw);go_simp <;> with_reducible rfl)
 simp only[List.getElem_toArray,List.getElem_cons_zero,List.getElem_cons_succ,Act.put,List.setIfInBounds_toArray,List.set_cons_zero,List.set_cons_succ]
 refine wpAnyH_done (by kernel_rfl) ?_ _
 refine NoPanic.normal ?_
 obtain ⟨w10,hw10⟩:∃ w10,w10=w9.setCell ⟨w.heap.size+1,6,none⟩ (.string X):=⟨_,rfl⟩
 have r10:w10.heap[w.heap.size+1]?=some (.cells #[.int .i64 1,.int .i64 1,.int .i64 (p:Int),.int .i64 0,.string ⟨#[]⟩,.string ⟨#[]⟩,.string X,.slice none 0 0,.slice none 0 0,.slice none 0 0,.bool false,.string ⟨#[]⟩] 30 (0,0)):=by rw[hw10];exact heap_setCell_same _ _ 6 _ _ _ r9
 have s10:∀ k,k≠w.heap.size+1→w10.heap[k]?=w9.heap[k]?:=fun k hk=>by rw[hw10];exact heap_setCell_other w9 _ _ _ hk
 have z10:w10.heap.size=w9.heap.size:=by rw[hw10];simp[World.setCell]
 have o10:w10.os=w9.os∧w10.tape=w9.tape∧w10.output=w9.output:=by rw[hw10];exact ⟨rfl,rfl,rfl⟩
 rw[←hw10]
 clear hw10 hHeld
 have H10:FlAt g s n (p:Int) (fin:Int) (.slice none 0 0) false w10:=(s10 g hgn).trans h9
 have ra10:=(s10 w.heap.size (by omega)).trans ra9
 have sz9:=b9.size
 go_wp2_with (go_at_call 18;refine (flPass_is g s n _ _ (E:Int) (.slice none 0 0) false _ H10).mono ?_;rintro e w11 ⟨rfl,hA11,hg11,hz11⟩;have r11:=(hg11.block (w.heap.size+1) (by omega) (fun e=>hgn (by injection e with e;exact e.symm))).trans r10;have ra11:=(hg11.block w.heap.size (by omega) (fun e=>Nat.ne_of_lt hg (by injection e with e;exact e.symm))).trans ra10;have q11:∀ j,w11.cell? ⟨w.heap.size+1,j,none⟩=(#[.int .i64 1,.int .i64 1,.int .i64 (p:Int),.int .i64 0,.string ⟨#[]⟩,.string ⟨#[]⟩,.string X,.slice none 0 0,.slice none 0 0,.slice none 0 0,.bool false,.string ⟨#[]⟩]:Array Value)[j]?:=fun j=>cell_of_row w11 _ j _ _ _ r11;have qa11:∀ j,w11.cell? ⟨w.heap.size,j,none⟩=(#[.int .i64 0,.int .i64 0,.int .i64 0,.int .i64 0,.string ⟨#[]⟩,.string ⟨#[]⟩,.string ⟨#[]⟩,.slice none 0 0,.slice none 0 0,.slice none 0 0,.bool false,.string ⟨#[]⟩]:Array Value)[j]?:=fun j=>cell_of_row w11 _ j _ _ _ ra11;have fa11:∀ j,w11.frozen? ⟨w.heap.size,j,none⟩=false:=fun j=>frozen_of_row w11 _ j _ _ ra11)
 obtain ⟨w12,hw12⟩:∃ w12,w12=((((((((((((w11.setCell ⟨w.heap.size,0,none⟩ (.int .i64 1)).setCell ⟨w.heap.size,1,none⟩ (.int .i64 1)).setCell ⟨w.heap.size,2,none⟩ (.int .i64 (p:Int))).setCell ⟨w.heap.size,3,none⟩ (.int .i64 0)).setCell ⟨w.heap.size,4,none⟩ (.string ⟨#[]⟩)).setCell ⟨w.heap.size,5,none⟩ (.string ⟨#[]⟩)).setCell ⟨w.heap.size,6,none⟩ (.string X)).setCell ⟨w.heap.size,7,none⟩ (.slice none 0 0)).setCell ⟨w.heap.size,8,none⟩ (.slice none 0 0)).setCell ⟨w.heap.size,9,none⟩ (.slice none 0 0)).setCell ⟨w.heap.size,10,none⟩ (.bool false)).setCell ⟨w.heap.size,11,none⟩ (.string ⟨#[]⟩)):=⟨_,rfl⟩
 have r12:w12.heap[w.heap.size]?=some (.cells #[.int .i64 1,.int .i64 1,.int .i64 (p:Int),.int .i64 0,.string ⟨#[]⟩,.string ⟨#[]⟩,.string X,.slice none 0 0,.slice none 0 0,.slice none 0 0,.bool false,.string ⟨#[]⟩] 30 (0,0)):=by rw[hw12];exact row12_set w11 (hg:=ra11) ..
 have b12:Below w.heap.size w11 w12:=by rw[hw12];exact row12_below w11 _ _ (Nat.le_refl _) _ _ _ _ _ _ _ _ _ _ _ _
 have z12:w12.heap.size=w11.heap.size:=by rw[hw12,row12_size]
 rw[←hw12]
 clear hw12
 have hcz:∀ j,w12.cell? ⟨w.heap.size,j,none⟩=(#[.int .i64 1,.int .i64 1,.int .i64 (p:Int),.int .i64 0,.string ⟨#[]⟩,.string ⟨#[]⟩,.string X,.slice none 0 0,.slice none 0 0,.slice none 0 0,.bool false,.string ⟨#[]⟩]:Array Value)[j]?:=fun j=>cell_of_row w12 _ j _ _ _ r12
 have A12:FlAt g s n (E:Int) (E:Int) (.slice none 0 0) false w12:=hA11.below b12 hg
 have K12:Keep (Lv w.heap.size g []) w w12:=by
  refine ⟨b12.os.trans (hg11.os.trans (o10.1.trans (b9.os.trans b3.os))),b12.tape.trans (hg11.tape.trans (o10.2.1.trans (b9.tape.trans b3.tape))),b12.output.trans (hg11.output.trans (o10.2.2.trans (b9.output.trans b3.output))),by omega,fun k hk=>?_⟩
  rw[b12.block k hk.1,hg11.block k (by have:=hk.1;omega) (fun e=>hk.2.1 (by injection e)),s10 k (by have:=hk.1;omega),b9.block k (by have:=hk.1;omega),b3.block k hk.1]
 refine bodyPost_ret (v:=.tuple #[.agg #[.int .i64 1,.int .i64 1,.int .i64 (p:Int),.int .i64 0,.string ⟨#[]⟩,.string ⟨#[]⟩,.string X,.slice none 0 0,.slice none 0 0,.slice none 0 0,.bool false,.string ⟨#[]⟩],.int .i64 C]) (by simp[results,Tryz.results37,go_sem,hcz]) rfl ?_
 have HXe:=HX.out
 subst HXe
 exact ⟨_,C,rfl,_,_,_,_,scalar_M K12 ⟨A12,HasV.nil 2 _,(fun e=>by cases e),fresh_ok hE⟩ ho⟩
set_option maxRecDepth 100000 in
set_option maxHeartbeats 3200000 in
theorem flContent_coll91 (w0:World) (g:Nat) (s:ByteArray) (hs:s.size≤10000) (n:Int) (col:Nat→Nat→Rd (NT × Nat)→Prop) (hcol:CollC w0 g s n col) (deep p fin:Nat) (oc:Rd (NT × Nat)) (w:World) (hd:deep≤100) (h:RS g s n ⟨[],false,fin,p⟩ (.slice none 0 0) w) (hB:Bs w0 w []) (hpc:pkN s p=91) (hZ:col deep p oc) :
  Calls Tryz.prog 37 #[.pointer (some ⟨g,0,none⟩),.int .i64 (deep:Int)] w fun e w'=>NodePost g s n w [] (rdMap (fun r=>(r.1,fresh r.2)) oc) e w':=by
 have hbr:isB s p 91=true∨isB s p 123=true:=by
  rw[isB_pk s p 91 (by decide),isB_pk s p 123 (by decide),hpc]
  decide
 have hwf:=h.ok
 have CP:=fun W H=>flPeek_is 91 g s n p (fin:Int) (.slice none 0 0) false W H (by omega) hpc
 have hA:=h.cells
 have hg:=hA.lt
 have hc:=hA.cell
 obtain ⟨W1,hW1⟩:∃ W1,W1=(w.alloc (.cells #[.int .i64 0,.int .i64 0,.int .i64 0,.int .i64 0,.string ⟨#[]⟩,.string ⟨#[]⟩,.string ⟨#[]⟩,.slice none 0 0,.slice none 0 0,.slice none 0 0,.bool false,.string ⟨#[]⟩] 30)).alloc (.cells #[.int .i64 1,.int .i64 1,.int .i64 (p:Int),.int .i64 0,.string ⟨#[]⟩,.string ⟨#[]⟩,.string ⟨#[]⟩,.slice none 0 0,.slice none 0 0,.slice none 0 0,.bool false,.string ⟨#[]⟩] 30):=⟨_,rfl⟩
 have z1:W1.heap.size=w.heap.size+2:=by rw[hW1];simp
 have b1:Below w.heap.size w W1:=by rw[hW1];exact ((Below.refl _ _).alloc (Nat.le_refl _) _).alloc (by simp) _
 have ra:W1.heap[w.heap.size]?=some (.cells #[.int .i64 0,.int .i64 0,.int .i64 0,.int .i64 0,.string ⟨#[]⟩,.string ⟨#[]⟩,.string ⟨#[]⟩,.slice none 0 0,.slice none 0 0,.slice none 0 0,.bool false,.string ⟨#[]⟩] 30 (0,0)):=by rw[hW1];exact (heap_alloc_old _ _ (by simp)).trans (heap_alloc_new w _)
 have rn:W1.heap[w.heap.size+1]?=some (.cells #[.int .i64 1,.int .i64 1,.int .i64 (p:Int),.int .i64 0,.string ⟨#[]⟩,.string ⟨#[]⟩,.string ⟨#[]⟩,.slice none 0 0,.slice none 0 0,.slice none 0 0,.bool false,.string ⟨#[]⟩] 30 (0,0)):=by
  rw[hW1]
  have:=heap_alloc_new (w.alloc (.cells #[.int .i64 0,.int .i64 0,.int .i64 0,.int .i64 0,.string ⟨#[]⟩,.string ⟨#[]⟩,.string ⟨#[]⟩,.slice none 0 0,.slice none 0 0,.slice none 0 0,.bool false,.string ⟨#[]⟩] 30)) (.cells #[.int .i64 1,.int .i64 1,.int .i64 (p:Int),.int .i64 0,.string ⟨#[]⟩,.string ⟨#[]⟩,.string ⟨#[]⟩,.slice none 0 0,.slice none 0 0,.slice none 0 0,.bool false,.string ⟨#[]⟩] 30)
  simpa using this
 have h1:=hA.below b1 hg
 have HW:=Lib.hid hW1
 have B1:=hB.below.trans (b1.mono hB.below.size)
 clear hW1 hA
 go_enter Tryz.func37,Tryz.ntmps37
 go_wp2_with fail
 rw[←HW.out]
 refine (CP _ h1).mono ?_
 rintro e w2 ⟨rfl,j1,rfl⟩
 obtain ⟨W2,hW2⟩:∃ W2,W2=W1.drewN j1:=⟨_,rfl⟩
 have h2:FlAt g s n (p:Int) (fin:Int) (.slice none 0 0) false W2:=by rw[hW2];exact h1.drewN j1
 have b2:Below w.heap.size w W2:=by rw[hW2];exact below_drewN b1 j1
 have B2:Below w0.heap.size w0 W2:=by rw[hW2];exact below_drewN B1 j1
 have z2:W2.heap.size=w.heap.size+2:=by rw[hW2];exact z1
 have ra2:W2.heap[w.heap.size]?=some (.cells #[.int .i64 0,.int .i64 0,.int .i64 0,.int .i64 0,.string ⟨#[]⟩,.string ⟨#[]⟩,.string ⟨#[]⟩,.slice none 0 0,.slice none 0 0,.slice none 0 0,.bool false,.string ⟨#[]⟩] 30 (0,0)):=by rw[hW2];exact ra
 have rn2:W2.heap[w.heap.size+1]?=some (.cells #[.int .i64 1,.int .i64 1,.int .i64 (p:Int),.int .i64 0,.string ⟨#[]⟩,.string ⟨#[]⟩,.string ⟨#[]⟩,.slice none 0 0,.slice none 0 0,.slice none 0 0,.bool false,.string ⟨#[]⟩] 30 (0,0)):=by rw[hW2];exact rn
 rw[←hW2]
 clear hW2 h1 b1 B1 z1 ra rn HW CP hc
 have R2:RS g s n ⟨[],false,fin,p⟩ (.slice none 0 0) W2:=⟨h2,HasV.nil 2 _,(fun e=>by cases e),hwf⟩
 have qa2:∀ j,W2.frozen? ⟨w.heap.size,j,none⟩=false:=fun j=>frozen_of_row W2 _ j _ _ ra2
 have CO:=hcol deep p fin oc W2 hd hbr hZ R2 ⟨B2,fun u hu=>by cases hu⟩
 clear R2 hbr hZ hcol rn2
 go_wp2_with (go_at_call 14;refine CO.mono ?_;rintro e w3 ⟨cs,c3,rfl,x,r,v,R,M⟩;have ra3:=(M.keep.block w.heap.size ⟨by omega,by omega,fun v hv=>by cases hv⟩).trans ra2;have q3:∀ j,w3.cell? ⟨w.heap.size,j,none⟩=(#[.int .i64 0,.int .i64 0,.int .i64 0,.int .i64 0,.string ⟨#[]⟩,.string ⟨#[]⟩,.string ⟨#[]⟩,.slice none 0 0,.slice none 0 0,.slice none 0 0,.bool false,.string ⟨#[]⟩]:Array Value)[j]?:=fun j=>cell_of_row w3 _ j _ _ _ ra3;have f3:∀ j,w3.frozen? ⟨w.heap.size,j,none⟩=false:=fun j=>frozen_of_row w3 _ j _ _ ra3;obtain ⟨i0,i1,i2,i3,s4,s5,s6,ak,nk,ck,al,nl,cl,af,nf,cf,b10,s11,rfl⟩:=M.node.cells12;have HM:=Lib.hid M;clear M)
 obtain ⟨w12,hw12⟩:∃ w12,w12=((((((((((((w3.setCell ⟨w.heap.size,0,none⟩ (.int .i64 i0)).setCell ⟨w.heap.size,1,none⟩ (.int .i64 i1)).setCell ⟨w.heap.size,2,none⟩ (.int .i64 i2)).setCell ⟨w.heap.size,3,none⟩ (.int .i64 i3)).setCell ⟨w.heap.size,4,none⟩ (.string s4)).setCell ⟨w.heap.size,5,none⟩ (.string s5)).setCell ⟨w.heap.size,6,none⟩ (.string s6)).setCell ⟨w.heap.size,7,none⟩ (.slice ak nk ck)).setCell ⟨w.heap.size,8,none⟩ (.slice al nl cl)).setCell ⟨w.heap.size,9,none⟩ (.slice af nf cf)).setCell ⟨w.heap.size,10,none⟩ (.bool b10)).setCell ⟨w.heap.size,11,none⟩ (.string s11)):=⟨_,rfl⟩
 have r12:w12.heap[w.heap.size]?=some (.cells #[.int .i64 i0,.int .i64 i1,.int .i64 i2,.int .i64 i3,.string s4,.string s5,.string s6,.slice ak nk ck,.slice al nl cl,.slice af nf cf,.bool b10,.string s11] 30 (0,0)):=by rw[hw12];exact row12_set w3 (hg:=ra3) ..
 have b12:Below w.heap.size w3 w12:=by rw[hw12];exact row12_below w3 _ _ (Nat.le_refl _) _ _ _ _ _ _ _ _ _ _ _ _
 have z12:w12.heap.size=w3.heap.size:=by rw[hw12,row12_size]
 have s12:∀ k,¬ k=w.heap.size→w12.heap[k]?=w3.heap[k]?:=fun k hk=>by rw[hw12];exact row12_other w3 _ k hk ..
 rw[←hw12]
 clear hw12 q3 f3
 have hcz:∀ j,w12.cell? ⟨w.heap.size,j,none⟩=(#[.int .i64 i0,.int .i64 i1,.int .i64 i2,.int .i64 i3,.string s4,.string s5,.string s6,.slice ak nk ck,.slice al nl cl,.slice af nf cf,.bool b10,.string s11]:Array Value)[j]?:=fun j=>cell_of_row w12 _ j _ _ _ r12
 refine bodyPost_ret (v:=.tuple #[.agg #[.int .i64 i0,.int .i64 i1,.int .i64 i2,.int .i64 i3,.string s4,.string s5,.string s6,.slice ak nk ck,.slice al nl cl,.slice af nf cf,.bool b10,.string s11],.int .i64 c3]) (by simp[results,Tryz.results37,go_sem,hcz]) rfl ?_
 exact ⟨_,c3,rfl,x,r,v,R,HM.out.put (Keep.of b2 (fun k hk=>hk.1)) (fun u hu=>by cases hu) (fun k=>k=w.heap.size) (fun k hk=>⟨Nat.le_of_eq hk.symm,by omega,by omega,fun u hu=>by cases hu⟩) s12 z12 ⟨b12.os,b12.tape,b12.output⟩⟩
set_option maxRecDepth 100000 in
set_option maxHeartbeats 3200000 in
theorem flContent_coll123 (w0:World) (g:Nat) (s:ByteArray) (hs:s.size≤10000) (n:Int) (col:Nat→Nat→Rd (NT × Nat)→Prop) (hcol:CollC w0 g s n col) (deep p fin:Nat) (oc:Rd (NT × Nat)) (w:World) (hd:deep≤100) (h:RS g s n ⟨[],false,fin,p⟩ (.slice none 0 0) w) (hB:Bs w0 w []) (hpc:pkN s p=123) (hZ:col deep p oc) :
  Calls Tryz.prog 37 #[.pointer (some ⟨g,0,none⟩),.int .i64 (deep:Int)] w fun e w'=>NodePost g s n w [] (rdMap (fun r=>(r.1,fresh r.2)) oc) e w':=by
 have hbr:isB s p 91=true∨isB s p 123=true:=by
  rw[isB_pk s p 91 (by decide),isB_pk s p 123 (by decide),hpc]
  decide
 have hwf:=h.ok
 have CP:=fun W H=>flPeek_is 123 g s n p (fin:Int) (.slice none 0 0) false W H (by omega) hpc
 have hA:=h.cells
 have hg:=hA.lt
 have hc:=hA.cell
 obtain ⟨W1,hW1⟩:∃ W1,W1=(w.alloc (.cells #[.int .i64 0,.int .i64 0,.int .i64 0,.int .i64 0,.string ⟨#[]⟩,.string ⟨#[]⟩,.string ⟨#[]⟩,.slice none 0 0,.slice none 0 0,.slice none 0 0,.bool false,.string ⟨#[]⟩] 30)).alloc (.cells #[.int .i64 1,.int .i64 1,.int .i64 (p:Int),.int .i64 0,.string ⟨#[]⟩,.string ⟨#[]⟩,.string ⟨#[]⟩,.slice none 0 0,.slice none 0 0,.slice none 0 0,.bool false,.string ⟨#[]⟩] 30):=⟨_,rfl⟩
 have z1:W1.heap.size=w.heap.size+2:=by rw[hW1];simp
 have b1:Below w.heap.size w W1:=by rw[hW1];exact ((Below.refl _ _).alloc (Nat.le_refl _) _).alloc (by simp) _
 have ra:W1.heap[w.heap.size]?=some (.cells #[.int .i64 0,.int .i64 0,.int .i64 0,.int .i64 0,.string ⟨#[]⟩,.string ⟨#[]⟩,.string ⟨#[]⟩,.slice none 0 0,.slice none 0 0,.slice none 0 0,.bool false,.string ⟨#[]⟩] 30 (0,0)):=by rw[hW1];exact (heap_alloc_old _ _ (by simp)).trans (heap_alloc_new w _)
 have rn:W1.heap[w.heap.size+1]?=some (.cells #[.int .i64 1,.int .i64 1,.int .i64 (p:Int),.int .i64 0,.string ⟨#[]⟩,.string ⟨#[]⟩,.string ⟨#[]⟩,.slice none 0 0,.slice none 0 0,.slice none 0 0,.bool false,.string ⟨#[]⟩] 30 (0,0)):=by
  rw[hW1]
  have:=heap_alloc_new (w.alloc (.cells #[.int .i64 0,.int .i64 0,.int .i64 0,.int .i64 0,.string ⟨#[]⟩,.string ⟨#[]⟩,.string ⟨#[]⟩,.slice none 0 0,.slice none 0 0,.slice none 0 0,.bool false,.string ⟨#[]⟩] 30)) (.cells #[.int .i64 1,.int .i64 1,.int .i64 (p:Int),.int .i64 0,.string ⟨#[]⟩,.string ⟨#[]⟩,.string ⟨#[]⟩,.slice none 0 0,.slice none 0 0,.slice none 0 0,.bool false,.string ⟨#[]⟩] 30)
  simpa using this
 have h1:=hA.below b1 hg
 have HW:=Lib.hid hW1
 have B1:=hB.below.trans (b1.mono hB.below.size)
 clear hW1 hA
 go_enter Tryz.func37,Tryz.ntmps37
 go_wp2_with fail
 rw[←HW.out]
 refine (CP _ h1).mono ?_
 rintro e w2 ⟨rfl,j1,rfl⟩
 obtain ⟨W2,hW2⟩:∃ W2,W2=W1.drewN j1:=⟨_,rfl⟩
 have h2:FlAt g s n (p:Int) (fin:Int) (.slice none 0 0) false W2:=by rw[hW2];exact h1.drewN j1
 have b2:Below w.heap.size w W2:=by rw[hW2];exact below_drewN b1 j1
 have B2:Below w0.heap.size w0 W2:=by rw[hW2];exact below_drewN B1 j1
 have z2:W2.heap.size=w.heap.size+2:=by rw[hW2];exact z1
 have ra2:W2.heap[w.heap.size]?=some (.cells #[.int .i64 0,.int .i64 0,.int .i64 0,.int .i64 0,.string ⟨#[]⟩,.string ⟨#[]⟩,.string ⟨#[]⟩,.slice none 0 0,.slice none 0 0,.slice none 0 0,.bool false,.string ⟨#[]⟩] 30 (0,0)):=by rw[hW2];exact ra
 have rn2:W2.heap[w.heap.size+1]?=some (.cells #[.int .i64 1,.int .i64 1,.int .i64 (p:Int),.int .i64 0,.string ⟨#[]⟩,.string ⟨#[]⟩,.string ⟨#[]⟩,.slice none 0 0,.slice none 0 0,.slice none 0 0,.bool false,.string ⟨#[]⟩] 30 (0,0)):=by rw[hW2];exact rn
 rw[←hW2]
 clear hW2 h1 b1 B1 z1 ra rn HW CP hc
 have R2:RS g s n ⟨[],false,fin,p⟩ (.slice none 0 0) W2:=⟨h2,HasV.nil 2 _,(fun e=>by cases e),hwf⟩
 have qa2:∀ j,W2.frozen? ⟨w.heap.size,j,none⟩=false:=fun j=>frozen_of_row W2 _ j _ _ ra2
 have CO:=hcol deep p fin oc W2 hd hbr hZ R2 ⟨B2,fun u hu=>by cases hu⟩
 clear R2 hbr hZ hcol rn2
 go_wp2_with (go_at_call 14;refine CO.mono ?_;rintro e w3 ⟨cs,c3,rfl,x,r,v,R,M⟩;have ra3:=(M.keep.block w.heap.size ⟨by omega,by omega,fun v hv=>by cases hv⟩).trans ra2;have q3:∀ j,w3.cell? ⟨w.heap.size,j,none⟩=(#[.int .i64 0,.int .i64 0,.int .i64 0,.int .i64 0,.string ⟨#[]⟩,.string ⟨#[]⟩,.string ⟨#[]⟩,.slice none 0 0,.slice none 0 0,.slice none 0 0,.bool false,.string ⟨#[]⟩]:Array Value)[j]?:=fun j=>cell_of_row w3 _ j _ _ _ ra3;have f3:∀ j,w3.frozen? ⟨w.heap.size,j,none⟩=false:=fun j=>frozen_of_row w3 _ j _ _ ra3;obtain ⟨i0,i1,i2,i3,s4,s5,s6,ak,nk,ck,al,nl,cl,af,nf,cf,b10,s11,rfl⟩:=M.node.cells12;have HM:=Lib.hid M;clear M)
 obtain ⟨w12,hw12⟩:∃ w12,w12=((((((((((((w3.setCell ⟨w.heap.size,0,none⟩ (.int .i64 i0)).setCell ⟨w.heap.size,1,none⟩ (.int .i64 i1)).setCell ⟨w.heap.size,2,none⟩ (.int .i64 i2)).setCell ⟨w.heap.size,3,none⟩ (.int .i64 i3)).setCell ⟨w.heap.size,4,none⟩ (.string s4)).setCell ⟨w.heap.size,5,none⟩ (.string s5)).setCell ⟨w.heap.size,6,none⟩ (.string s6)).setCell ⟨w.heap.size,7,none⟩ (.slice ak nk ck)).setCell ⟨w.heap.size,8,none⟩ (.slice al nl cl)).setCell ⟨w.heap.size,9,none⟩ (.slice af nf cf)).setCell ⟨w.heap.size,10,none⟩ (.bool b10)).setCell ⟨w.heap.size,11,none⟩ (.string s11)):=⟨_,rfl⟩
 have r12:w12.heap[w.heap.size]?=some (.cells #[.int .i64 i0,.int .i64 i1,.int .i64 i2,.int .i64 i3,.string s4,.string s5,.string s6,.slice ak nk ck,.slice al nl cl,.slice af nf cf,.bool b10,.string s11] 30 (0,0)):=by rw[hw12];exact row12_set w3 (hg:=ra3) ..
 have b12:Below w.heap.size w3 w12:=by rw[hw12];exact row12_below w3 _ _ (Nat.le_refl _) _ _ _ _ _ _ _ _ _ _ _ _
 have z12:w12.heap.size=w3.heap.size:=by rw[hw12,row12_size]
 have s12:∀ k,¬ k=w.heap.size→w12.heap[k]?=w3.heap[k]?:=fun k hk=>by rw[hw12];exact row12_other w3 _ k hk ..
 rw[←hw12]
 clear hw12 q3 f3
 have hcz:∀ j,w12.cell? ⟨w.heap.size,j,none⟩=(#[.int .i64 i0,.int .i64 i1,.int .i64 i2,.int .i64 i3,.string s4,.string s5,.string s6,.slice ak nk ck,.slice al nl cl,.slice af nf cf,.bool b10,.string s11]:Array Value)[j]?:=fun j=>cell_of_row w12 _ j _ _ _ r12
 refine bodyPost_ret (v:=.tuple #[.agg #[.int .i64 i0,.int .i64 i1,.int .i64 i2,.int .i64 i3,.string s4,.string s5,.string s6,.slice ak nk ck,.slice al nl cl,.slice af nf cf,.bool b10,.string s11],.int .i64 c3]) (by simp[results,Tryz.results37,go_sem,hcz]) rfl ?_
 exact ⟨_,c3,rfl,x,r,v,R,HM.out.put (Keep.of b2 (fun k hk=>hk.1)) (fun u hu=>by cases hu) (fun k=>k=w.heap.size) (fun k hk=>⟨Nat.le_of_eq hk.symm,by omega,by omega,fun u hu=>by cases hu⟩) s12 z12 ⟨b12.os,b12.tape,b12.output⟩⟩
theorem flContent_is (w0:World) (hEv:Env w0) (g:Nat) (s:ByteArray) (hs:s.size≤10000) (n:Int) (col:Nat→Nat→Rd (NT × Nat)→Prop) (hcol:CollC w0 g s n col) (deep p fin:Nat) (o:Rd (NT × Rst)) (w:World) (hd:deep≤100) (h:RS g s n ⟨[],false,fin,p⟩ (.slice none 0 0) w) (hB:Bs w0 w []) (ho:contP s n col deep p o) :
  Calls Tryz.prog 37 #[.pointer (some ⟨g,0,none⟩),.int .i64 (deep:Int)] w fun e w'=>NodePost g s n w [] o e w':=by
 have hp:p≤s.size:=h.ok.top
 obtain ⟨c,hpc⟩:∃ c,pkN s p=c:=⟨_,rfl⟩
 have hb:∀ k,k≠0→isB s p k=decide (c=k):=fun k hk=>by rw[isB_pk s p k hk,hpc]
 unfold contP at ho
 by_cases c1:c=91∨c=123
 ·rw[if_pos (by rw[hb 91 (by decide),hb 123 (by decide)];rcases c1 with e|e <;> subst e <;> decide)] at ho
  have ho2:∃ oc,col deep p oc∧o=rdMap (fun r=>(r.1,fresh r.2)) oc:=by
   rcases ho with ⟨q,k,h1,e⟩|⟨r,h1,e⟩
   ·exact ⟨_,h1,e⟩
   ·exact ⟨_,h1,e⟩
  obtain ⟨oc,h1,rfl⟩:=ho2
  rcases c1 with e|e
  ·subst e;exact flContent_coll91 w0 g s hs n col hcol deep p fin oc w hd h hB hpc h1
  ·subst e;exact flContent_coll123 w0 g s hs n col hcol deep p fin oc w hd h hB hpc h1
 ·have n1:c≠91:=fun e=>c1 (.inl e)
  have n2:c≠123:=fun e=>c1 (.inr e)
  rw[if_neg (by rw[hb 91 (by decide),hb 123 (by decide),decide_eq_false n1,decide_eq_false n2];decide)] at ho
  by_cases c2:c=42
  ·rw[if_pos (by rw[hb 42 (by decide),decide_eq_true c2])] at ho
   obtain ⟨A,E,C,hZ,ho⟩:=ho
   have hE:∃ E':Nat,E=(E':Int)∧E'≤s.size:=by
    rcases hZ.far_le with ⟨_,E',e,_,h2⟩|⟨_,e⟩
    ·exact ⟨E',e,h2⟩
    ·exact ⟨p,e,hp⟩
   obtain ⟨E',rfl,hE⟩:=hE
   subst c2
   rw[Int.toNat_natCast] at ho
   exact flContent_alias w0 g s hs n deep p fin A E' C o w h hB hpc hZ hE ho
  ·rw[if_neg (by rw[hb 42 (by decide),decide_eq_false c2];decide)] at ho
   by_cases c3:c=39∨c=34
   ·rw[if_pos (by rw[hb 39 (by decide),hb 34 (by decide)];rcases c3 with e|e <;> subst e <;> decide)] at ho
    obtain ⟨T,E,O,C,hZ,ho⟩:=ho
    have hq:p<s.size∧(byt s p=39∨byt s p=34):=by
     rcases c3 with e|e <;> subst e
     ·have:=pk_lt hpc (by decide);exact ⟨this.1,.inl this.2⟩
     ·have:=pk_lt hpc (by decide);exact ⟨this.1,.inr this.2⟩
    obtain ⟨E',rfl,_,hE⟩:=hZ.far_le hq.1 hq.2
    rw[Int.toNat_natCast,hb 39 (by decide)] at ho
    rcases c3 with e|e
    ·subst e
     exact flContent_single w0 hEv g s hs n deep p fin T E' O C o w h hB hpc hZ hE ho
    ·subst e
     exact flContent_double w0 hEv g s hs n deep p fin T E' O C o w h hB hpc hZ hE ho
   ·have n4:c≠39:=fun e=>c3 (.inl e)
    have n5:c≠34:=fun e=>c3 (.inr e)
    rw[if_neg (by rw[hb 39 (by decide),hb 34 (by decide),decide_eq_false n4,decide_eq_false n5];decide)] at ho
    obtain ⟨T,E,O,C,hZ,ho⟩:=ho
    have hE:∃ E':Nat,E=(E':Int)∧E'≤s.size:=by
     cases hbb:begB s (p:Int) true with
     | false=>
      unfold PlaiZ at hZ
      rw[if_pos hbb] at hZ
      exact ⟨p,hZ.2.1,hp⟩
     | true=>
      obtain ⟨E',e,_,h2⟩:=hZ.far_le hbb
      exact ⟨E',e,h2⟩
    obtain ⟨E',rfl,hE⟩:=hE
    rw[Int.toNat_natCast] at ho
    exact flContent_plain w0 g s hs n deep p fin T E' O c C o w h hB hpc n1 n2 c2 n4 n5 hZ hE ho
end Go.Proofs.YtncngeamdechmaaGreatDoor
