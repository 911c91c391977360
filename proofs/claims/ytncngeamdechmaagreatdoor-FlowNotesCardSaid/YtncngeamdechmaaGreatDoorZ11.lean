/- Parts of the proof, put together from smaller texts (blanks that Lean does not want are struck). Conditions: those that each theorem writes out. -/
import Derived.BigQuiet
import Derived.Deep.DrawnRows
import Derived.Deep.RegionWith
import Derived.StillTailTactics
import Derived.Test.YtncngeamdechmaaGreatDoorZ00
import Derived.Test.YtncngeamdechmaaGreatDoorZ05
import Derived.Test.YtncngeamdechmaaGreatDoorZ09
import Derived.Test.YtncngeamdechmaaGreatDoorZ10
namespace Go.Proofs.YtncngeamdechmaaGreatDoor
open Go.RowKit
structure WFr (s:ByteArray) (r:Rst):Prop where
 le:r.fin≤r.at'
 top:r.at'≤s.size
 few:r.l.length+r.fin≤r.at'
 near:r.same=true→r.l≠[]
structure RS (g:Nat) (s:ByteArray) (n:Int) (r:Rst) (v:Value) (w:World):Prop where
 cells:FlAt g s n (r.at':Int) (r.fin:Int) v r.same w
 has:HasV 2 w v r.l.length (comV r.l)
 apart:v.ownBlock≠some g
 ok:WFr s r
def Lv (B g:Nat) (vs:List Value):Nat→Prop:=fun k=>k<B∧k≠g∧∀ v∈vs,v.ownBlock≠some k
def NewV (B:Nat) (vs:List Value) (v':Value):Prop:=∀ k,v'.ownBlock=some k→B≤k∨∃ v∈vs,v.ownBlock=some k
def skipped (s:ByteArray) (r:Rst) (L:Coms) (S:Bool) (E:Nat):Rst:=⟨r.l++L,if r.l.length=0 then S&&sameRow s r.fin r.at' else r.same,r.fin,E⟩
theorem skipped_ok {s:ByteArray} {n:Int} {r:Rst} {L:Coms} {S:Bool} {E:Nat} {C:Int} (h:WFr s r) (hZ:NoteZ s true n (r.at':Int) L S (E:Int) C):WFr s (skipped s r L S E):=by
 obtain ⟨E',e,h1,h2⟩:=hZ.far_le h.top
 have e':E'=E:=by omega
 subst e'
 obtain ⟨f1,f2,f3⟩:=hZ.facts h.top
 have hl:=h.le
 have hw:=h.few
 refine ⟨by show r.fin≤E';omega,h2,?_,?_⟩
 ·show (r.l++L).length+r.fin≤E'
  rw[List.length_append]
  by_cases hC:C=0
  ·have:=f2 hC
   rw[Int.toNat_natCast] at this
   omega
  ·rw[f3 hC,List.length_nil]
   omega
 ·show (if r.l.length=0 then S&&sameRow s r.fin r.at' else r.same)=true→r.l++L≠[]
  split
  ·intro hs hn
   rw[Bool.and_eq_true] at hs
   exact f1 hs.1 (List.append_eq_nil_iff.1 hn).2
  ·intro hs hn
   exact h.near hs (List.append_eq_nil_iff.1 hn).1
theorem lf_in {s:ByteArray} {a b:Nat} (ha:a≤b) (hb:b≤s.size):decide (0≤Lib.indexByte (s.extract a b).data.toList 10)=!(sameRow s a b):=by
 have hl:(s.extract a b).data.toList=pieceL s a b:=by rw[piece_ext]
 have hlf:∀ j,j<b-a→byt s (a+j)=10→(pieceL s a b)[j]?=some 10:=fun j hj h=>by
  have hlen:j<(pieceL s a b).length:=by rw[piece_len hb];exact hj
  obtain ⟨e,he⟩:∃ e,(pieceL s a b)[j]?=some e:=⟨_,List.getElem?_eq_getElem hlen⟩
  have h2:=(piece_get s a b j e he).2
  rw[he]
  exact congrArg some (UInt8.toNat_inj.1 (by rw[←h2,h];rfl))
 rw[hl]
 have hge:=Lib.indexByte_ge (pieceL s a b) 10
 obtain ⟨i,hi⟩:∃ i,Lib.indexByte (pieceL s a b) 10=i:=⟨_,rfl⟩
 rw[hi] at hge ⊢
 by_cases h1:i=-1
 ·subst h1
  have hn:=Lib.indexByte_none hi
  have hr:sameRow s a b=true:=sameRow_iff.2 fun j j1 j2 h3=>hn (j-a) (hlf (j-a) (by omega) (by rw[show a+(j-a)=j by omega];exact h3))
  rw[hr]
  rfl
 ·obtain ⟨o,rfl⟩:∃ o:Nat,i=o:=⟨i.toNat,by omega⟩
  obtain ⟨h2,h3⟩:=Lib.indexByte_some hi
  obtain ⟨h4,h5⟩:=piece_get s a b o 10 h2
  rw[row_lf (s:=s) (a:=a) (j:=a+o) (c:=b) (by omega) (by omega) h5,decide_eq_true (by omega)]
  rfl
theorem src_coms {R:Nat→Prop} {w:World} {v:Value} {cs:Coms} (h:ComsR R w v cs):Src Tryz.prog 2 28 v cs.length (comV cs) w:=by
 obtain ⟨ao,cap,rfl,k1,k2,k3⟩:=h
 by_cases h0:0<cs.length
 ·obtain ⟨b,o,rfl,_,hc⟩:=k3 h0
  refine Src.ofSlice w Tryz.underlying28 _ cs.length cap (comV cs) (comV_length cs) (fun j u hu=>?_) (comV_one cs)
  have hj:j<cs.length*2:=by
   have:=(List.getElem?_eq_some_iff.1 hu).1
   rwa [comV_length] at this
  obtain ⟨c1,c2⟩:=hc (j / 2) (by omega)
  obtain ⟨g1,g2⟩:=comV_get cs (j / 2) (by omega)
  rw[Addr.add_lit,←hu]
  rcases Nat.mod_two_eq_zero_or_one j with hm|hm
  ·have ej:j=j / 2*2:=by omega
   rw[ej,g1,c1]
  ·have ej:j=j / 2*2+1:=by omega
   rw[ej,g2]
   rw[show o+(j / 2*2+1)=o+j / 2*2+1 by omega,c2]
 ·have hy:cs=[]:=List.eq_nil_of_length_eq_zero (by omega)
  subst hy
  cases ao with
  | none=>exact Src.ofNil w Tryz.underlying28 cap
  | some a=>exact Src.ofSlice w Tryz.underlying28 a 0 cap [] rfl (fun j u hu=>by simp at hu) (fun u hu=>by simp at hu)
theorem HasV.toComs {w:World} {v:Value} {cs:Coms} (h:HasV 2 w v cs.length (comV cs)):ComsR (fun k=>v.ownBlock=some k) w v cs:=by
 obtain ⟨ao,b,off,cap,rfl,hm,hc,_⟩:=h
 refine ⟨ao,cap,rfl,hc.le,hm,fun h0=>?_⟩
 have ha:=hc.addr (Nat.lt_of_lt_of_le h0 hc.le)
 refine ⟨b,off,ha,by rw[ha];rfl,fun j hj=>?_⟩
 obtain ⟨g1,g2⟩:=comV_get cs j hj
 exact ⟨hc.olds (j*2) _ g1,by have:=hc.olds (j*2+1) _ g2;rwa [←Nat.add_assoc] at this⟩
theorem appendH {ops:Array Oper} {rest:List Oper} {o:Oper} {a:Act} {Q:Exit→Act→World→Prop} {w:World} (hgd:o.guard=none) (s x:Operand)
  (ho:o.op=.call { callee:=.builtin .append,args:=#[s,x],argTypes:=#[28,28] })
  (R:Nat→Prop) (v v2:Value) (xs ys:Coms) (hs:a.eval s=v) (hx:a.eval x=v2) (hv:HasV 2 w v xs.length (comV xs)) (hv2:ComsR R w v2 ys) (hn:xs.length+ys.length≤1000000000)
  (h:∀ v' w',HasV 2 w' v' (xs++ys).length (comV (xs++ys))→w.grownBy w' v.ownBlock→(v'.ownBlock=v.ownBlock∨v'.ownBlock=some w.heap.size)→wpList Tryz.prog ops Q rest (a.put o.dst v') w'):wpList Tryz.prog ops Q (o :: rest) a w:=by
 obtain ⟨i0,hi,hz0,hz1,hz2⟩:=info_parts infoC
 refine wpList_plain hgd fun K hK=>?_
 obtain ⟨v',w',hrun,h1,h2,h3,_,_⟩:=run_append_has (P:=Tryz.prog) 28 28 o.type 41 i0 (.agg #[.string ByteArray.empty,.int .i64 0]) 2 24 Tryz.underlying28 hi hz0 hz1 hz2 rfl (by decide) w v xs.length (comV xs) hv v2 ys.length (comV ys) (src_coms hv2) (by unfold maxLen;omega) (by omega)
 unfold Oper.wp
 simp[execOp,ho,resolve,invoke,builtin,hs,hx,hrun,Result.andThen]
 refine hK _ _ (h v' w' ?_ h2 h3)
 rw[List.length_append,comV_append]
 exact h1
theorem skip_end {g:Nat} {s:ByteArray} {n:Int} {p0 e0:Int} {v v5:Value} {sm:Bool} {xs:Coms} {E:Int} {w w9 w4 w5:World} (b9:Below w.heap.size w w9) (G1:w9.grownBy w4 (some g)) (g5:w4.grownBy w5 v.ownBlock) (hap:v.ownBlock≠some g) (hg:g<w.heap.size)
  (W5:FlAt g s n p0 e0 v sm w5) (o5:HasV 2 w5 v5 xs.length (comV xs)) (n5:v5.ownBlock=v.ownBlock∨v5.ownBlock=some w4.heap.size) :
  FlAt g s n E e0 v5 sm ((w5.setCell ⟨g,4,none⟩ v5).setCell ⟨g,2,none⟩ (.int .i64 E))∧HasV 2 ((w5.setCell ⟨g,4,none⟩ v5).setCell ⟨g,2,none⟩ (.int .i64 E)) v5 xs.length (comV xs)∧v5.ownBlock≠some g∧NewV w.heap.size [v] v5∧Keep (Lv w.heap.size g [v]) w ((w5.setCell ⟨g,4,none⟩ v5).setCell ⟨g,2,none⟩ (.int .i64 E)):=by
 have z9:=b9.size
 have z4:=G1.size
 have z5:=g5.size
 have hne:v5.ownBlock≠some g:=by
  rcases n5 with e|e
  ·rw[e];exact hap
  ·rw[e];intro h;injection h with h;omega
 have hset:∀ k,k≠g→((w5.setCell ⟨g,4,none⟩ v5).setCell ⟨g,2,none⟩ (.int .i64 E)).heap[k]?=w5.heap[k]?:=fun k hk=>by
  rw[heap_setCell_other _ _ _ _ hk,heap_setCell_other _ _ _ _ hk]
 refine ⟨heap_setCell_same _ _ 2 _ _ _ (heap_setCell_same _ _ 4 _ _ _ W5),o5.keep fun k hk _=>hset k (fun e=>hne (by rw[hk,e])),hne,fun k hk=>?_,⟨?_,?_,?_,?_,fun k hk=>?_⟩⟩
 ·rcases n5 with e|e
  ·exact .inr ⟨v,by simp,by rw[←e];exact hk⟩
  ·rw[e] at hk;injection hk with hk;exact .inl (by omega)
 ·exact (g5.os.trans G1.os).trans b9.os
 ·exact (g5.tape.trans G1.tape).trans b9.tape
 ·exact (g5.output.trans G1.output).trans b9.output
 ·have:((w5.setCell ⟨g,4,none⟩ v5).setCell ⟨g,2,none⟩ (.int .i64 E)).heap.size=w5.heap.size:=by simp[World.setCell]
  omega
 ·obtain ⟨k1,k2,k3⟩:=hk
  rw[hset k k2,g5.block k (by omega) (fun e=>k3 v (by simp) e.symm),G1.block k (by omega) (fun e=>k2 (by injection e)),b9.block k k1]
set_option maxRecDepth 100000 in
set_option maxHeartbeats 3200000 in
theorem flSkip_is (g:Nat) (s:ByteArray) (n:Int) (r:Rst) (v:Value) (L:Coms) (S:Bool) (E:Nat) (C:Int) (w:World) (h:RS g s n r v w) (hs:s.size≤10000) (hZ:NoteZ s true n (r.at':Int) L S (E:Int) C) :
  Calls Tryz.prog 19 #[.pointer (some ⟨g,0,none⟩)] w fun e w'=>e=.returned (.int .i64 C)∧∃ v',RS g s n (skipped s r L S E) v' w'∧NewV w.heap.size [v] v'∧Keep (Lv w.heap.size g [v]) w w':=by
 have hok:=skipped_ok h.ok hZ
 have CW:=fun W=>noteWithin_is L S (E:Int) C s (r.at':Int) n W (by omega) hZ
 obtain ⟨hA,hH,hap,hwf⟩:=h
 have hg:=hA.lt
 have hc:=hA.cell
 have HA:=Lib.hid hA
 have HH:=Lib.hid hH
 obtain ⟨ao,cap,rfl⟩:=hH.form
 have hrl:r.l.length≤10000:=by have:=hwf.few;have:=hwf.top;omega
 have hLl:L.length≤10000:=by
  have h1:=hok.few
  have h2:=hok.top
  have h3:(skipped s r L S E).l.length=r.l.length+L.length:=List.length_append
  omega
 clear hA hH
 go_enter Tryz.func19,Tryz.ntmps19
 go_wp2_with fail
 have hS0:(w.drew.cell? ⟨g,0,none⟩=some (.string s)∧w.drew.cell? ⟨g,2,none⟩=some (.int .i64 (r.at':Int))∧w.drew.cell? ⟨g,1,none⟩=some (.int .i64 n))∧Below w.heap.size w w.drew:=⟨⟨hc 0,hc 2,hc 1⟩,(Below.refl _ _).drew⟩
 have CS:∀ W:World,((W.cell? ⟨g,0,none⟩=some (.string s)∧W.cell? ⟨g,2,none⟩=some (.int .i64 (r.at':Int))∧W.cell? ⟨g,1,none⟩=some (.int .i64 n))∧Below w.heap.size w W)→Calls Tryz.prog 32 #[.string s,.int .i64 (r.at':Int),.int .i64 n] W fun e w'=>∃ v,e=.returned (.tuple #[v,.bool S,.int .i64 (E:Int),.int .i64 C])∧((w'.cell? ⟨g,0,none⟩=some (.string s)∧w'.cell? ⟨g,2,none⟩=some (.int .i64 (r.at':Int))∧w'.cell? ⟨g,1,none⟩=some (.int .i64 n))∧Below w.heap.size w w')∧OutC w.heap.size w' v L:=fun W hS=>(CW W).mono fun e w' ⟨v,a1,a2,a3⟩=>by
  have b8:=hS.2.trans (a3.mono hS.2.size)
  have h8:=HA.out.below b8 hg
  exact ⟨v,a1,⟨⟨h8.cell 0,h8.cell 2,h8.cell 1⟩,b8⟩,⟨a2.1,a2.2.imp id fun ⟨k,c,cur,g1,g2,g3⟩=>⟨k,c,cur,g1,Nat.le_trans hS.2.size g2,g3⟩⟩⟩
 clear hc
 go_region_held3 (fun w'=>(w'.cell? ⟨g,0,none⟩=some (.string s)∧w'.cell? ⟨g,2,none⟩=some (.int .i64 (r.at':Int))∧w'.cell? ⟨g,1,none⟩=some (.int .i64 n))∧Below w.heap.size w w') (first|assumption|exact hS0)
  (first|(go_at_call 32;refine (CS _ (by assumption)).mono ?_;rintro e w9 ⟨vn,rfl,hS9,hx9⟩))
 have b9:=hS9.2
 have h9:=HA.out.below b9 hg
 have hc9:=h9.cell
 have hz9:=h9.free
 have HX9:=Lib.hid hx9
 have HH9:=Lib.hid (HH.out.below b9 (Nat.le_refl _))
 obtain ⟨an,cn,hn⟩:=(HasV.of_own hx9).form
 subst hn
 clear hS9 CW CS hS0
 have sz9:=b9.size
 obtain ⟨X,hX⟩:∃ X,r.l++L=X:=⟨_,rfl⟩
 have HCX:=Lib.hid hX
 by_cases hl0:r.l.length=0
 ·have hlz:((r.l.length:Int)==0)=true:=by rw[beq_iff_eq];omega
  have hrow:skipped s r L S E=⟨X,S&&sameRow s r.fin r.at',r.fin,E⟩:=by unfold skipped;rw[if_pos hl0,hX]
  clear hX
  have hS1:(w9.cell? ⟨g,0,none⟩=some (.string s)∧w9.cell? ⟨g,2,none⟩=some (.int .i64 (r.at':Int))∧w9.cell? ⟨g,3,none⟩=some (.int .i64 (r.fin:Int))):=⟨hc9 0,hc9 2,hc9 3⟩
  have hS2:(w9.drew.cell? ⟨g,0,none⟩=some (.string s)∧w9.drew.cell? ⟨g,2,none⟩=some (.int .i64 (r.at':Int))∧w9.drew.cell? ⟨g,3,none⟩=some (.int .i64 (r.fin:Int))):=hS1
  have HROW:=Lib.hid hrow
  clear hrow
  cases S with
  | false=>
   clear hl0
   go_wp2_with fail
   refine wp_region_noPanic ?_
   refine wp_region_held_drew (S:=fun w'=>(w'.cell? ⟨g,0,none⟩=some (.string s)∧w'.cell? ⟨g,2,none⟩=some (.int .i64 (r.at':Int))∧w'.cell? ⟨g,3,none⟩=some (.int .i64 (r.fin:Int)))) (by kernel_rfl) ?_ (fun hHeld=>?_)
   ·exact hS2
   refine wpAnyH_take (i:=0) (v:=?_) rfl (by kernel_rfl) (by kernel_rfl) (by kernel_rfl) (fun _ _ _ h=>h) (Or.inl ⟨by rfl,?_⟩) (by assumption) ?_
   rotate_left
   ·(intro w hSw;(try dsimp only at hSw);go_simp <;> with_reducible rfl)
   simp only[List.getElem_toArray,List.getElem_cons_zero,Act.put,List.setIfInBounds_toArray,List.set_cons_zero,List.set_cons_succ]
   refine wpAnyH_take (i:=1) (v:=?_) rfl (by kernel_rfl) (by kernel_rfl) (by kernel_rfl) (fun _ _ _ h=>h) (Or.inl ⟨by rfl,?_⟩) (by assumption) ?_
   rotate_left
   ·(intro w hSw;(try dsimp only at hSw);go_simp <;> with_reducible rfl)
   simp only[List.getElem_toArray,List.getElem_cons_zero,List.getElem_cons_succ,Act.put,List.setIfInBounds_toArray,List.set_cons_zero,List.set_cons_succ]
   refine wpAnyH_take (i:=2) (v:=?_) rfl (by kernel_rfl) (by kernel_rfl) (by kernel_rfl) (fun _ _ _ h=>h) (Or.inl ⟨by rfl,?_⟩) (by assumption) ?_
   rotate_left
   ·(intro w hSw;(try dsimp only at hSw);go_simp <;> with_reducible rfl)
   simp only[List.getElem_toArray,List.getElem_cons_zero,List.getElem_cons_succ,Act.put,List.setIfInBounds_toArray,List.set_cons_zero,List.set_cons_succ]
   refine wpAnyH_take (i:=3) (v:=undef) rfl (by kernel_rfl) (by kernel_rfl) (by kernel_rfl) (fun _ _ _ h=>h) (Or.inr ⟨by rfl,rfl⟩) (by assumption) ?_
   simp only[List.getElem_toArray,List.getElem_cons_zero,List.getElem_cons_succ,Act.put,List.setIfInBounds_toArray,List.set_cons_zero,List.set_cons_succ]
   refine wpAnyH_take (i:=4) (v:=undef) rfl (by kernel_rfl) (by kernel_rfl) (by kernel_rfl) (fun _ _ _ h=>h) (Or.inr ⟨by rfl,rfl⟩) (by assumption) ?_
   simp only[List.getElem_toArray,List.getElem_cons_zero,List.getElem_cons_succ,Act.put,List.setIfInBounds_toArray,List.set_cons_zero,List.set_cons_succ]
   refine wpAnyH_take (i:=5) (v:=undef) rfl (by kernel_rfl) (by kernel_rfl) (by kernel_rfl) (fun _ _ _ h=>h) (Or.inr ⟨by rfl,rfl⟩) (by assumption) ?_
   simp only[List.getElem_toArray,List.getElem_cons_zero,List.getElem_cons_succ,Act.put,List.setIfInBounds_toArray,List.set_cons_zero,List.set_cons_succ]
   refine wpAnyH_take (i:=6) (v:=undef) rfl (by kernel_rfl) (by kernel_rfl) (by kernel_rfl) (fun _ _ _ h=>h) (Or.inr ⟨by rfl,rfl⟩) (by assumption) ?_
   simp only[List.getElem_toArray,List.getElem_cons_zero,List.getElem_cons_succ,Act.put,List.setIfInBounds_toArray,List.set_cons_zero,List.set_cons_succ]
   refine wpAnyH_take (i:=7) (v:=undef) rfl (by kernel_rfl) (by kernel_rfl) (by kernel_rfl) (fun _ _ _ h=>h) (Or.inr ⟨by rfl,rfl⟩) (by assumption) ?_
   simp only[List.getElem_toArray,List.getElem_cons_zero,List.getElem_cons_succ,Act.put,List.setIfInBounds_toArray,List.set_cons_zero,List.set_cons_succ]
   refine wpAnyH_take (i:=8) (v:=undef) rfl (by kernel_rfl) (by kernel_rfl) (by kernel_rfl) (fun _ _ _ h=>h) (Or.inr ⟨by rfl,rfl⟩) (by assumption) ?_
   simp only[List.getElem_toArray,List.getElem_cons_zero,List.getElem_cons_succ,Act.put,List.setIfInBounds_toArray,List.set_cons_zero,List.set_cons_succ]
   refine wpAnyH_take (i:=9) (v:=undef) rfl (by kernel_rfl) (by kernel_rfl) (by kernel_rfl) (fun _ _ _ h=>h) (Or.inr ⟨by rfl,rfl⟩) (by assumption) ?_
   simp only[List.getElem_toArray,List.getElem_cons_zero,List.getElem_cons_succ,Act.put,List.setIfInBounds_toArray,List.set_cons_zero,List.set_cons_succ]
   refine wpAnyH_take (i:=10) (v:=undef) rfl (by kernel_rfl) (by kernel_rfl) (by kernel_rfl) (fun _ _ _ h=>h) (Or.inr ⟨by rfl,rfl⟩) (by assumption) ?_
   simp only[List.getElem_toArray,List.getElem_cons_zero,List.getElem_cons_succ,Act.put,List.setIfInBounds_toArray,List.set_cons_zero,List.set_cons_succ]
   refine wpAnyH_take (i:=11) (v:=undef) rfl (by kernel_rfl) (by kernel_rfl) (by kernel_rfl) (fun _ _ _ h=>h) (Or.inr ⟨by rfl,rfl⟩) (by assumption) ?_
   simp only[List.getElem_toArray,List.getElem_cons_zero,List.getElem_cons_succ,Act.put,List.setIfInBounds_toArray,List.set_cons_zero,List.set_cons_succ]
   refine wpAnyH_take (i:=12) (v:=undef) rfl (by kernel_rfl) (by kernel_rfl) (by kernel_rfl) (fun _ _ _ h=>h) (Or.inr ⟨by rfl,rfl⟩) (by assumption) ?_
   simp only[List.getElem_toArray,List.getElem_cons_zero,List.getElem_cons_succ,Act.put,List.setIfInBounds_toArray,List.set_cons_zero,List.set_cons_succ]
   refine wpAnyH_take (i:=13) (v:=undef) rfl (by kernel_rfl) (by kernel_rfl) (by kernel_rfl) (fun _ _ _ h=>h) (Or.inr ⟨by rfl,rfl⟩) (by assumption) ?_
   simp only[List.getElem_toArray,List.getElem_cons_zero,List.getElem_cons_succ,Act.put,List.setIfInBounds_toArray,List.set_cons_zero,List.set_cons_succ]
   refine wpAnyH_take (i:=14) (v:=undef) rfl (by kernel_rfl) (by kernel_rfl) (by kernel_rfl) (fun _ _ _ h=>h) (Or.inr ⟨by rfl,rfl⟩) (by assumption) ?_
   simp only[List.getElem_toArray,List.getElem_cons_zero,List.getElem_cons_succ,Act.put,List.setIfInBounds_toArray,List.set_cons_zero,List.set_cons_succ]
   refine wpAnyH_take (i:=15) (v:=undef) rfl (by kernel_rfl) (by kernel_rfl) (by kernel_rfl) (fun _ _ _ h=>h) (Or.inr ⟨by rfl,rfl⟩) (by assumption) ?_
   simp only[List.getElem_toArray,List.getElem_cons_zero,List.getElem_cons_succ,Act.put,List.setIfInBounds_toArray,List.set_cons_zero,List.set_cons_succ]
   refine wpAnyH_take (i:=16) (v:=undef) rfl (by kernel_rfl) (by kernel_rfl) (by kernel_rfl) (fun _ _ _ h=>h) (Or.inr ⟨by rfl,rfl⟩) (by assumption) ?_
   simp only[List.getElem_toArray,List.getElem_cons_zero,List.getElem_cons_succ,Act.put,List.setIfInBounds_toArray,List.set_cons_zero,List.set_cons_succ]
   refine wpAnyH_take (i:=17) (v:=undef) rfl (by kernel_rfl) (by kernel_rfl) (by kernel_rfl) (fun _ _ _ h=>h) (Or.inr ⟨by rfl,rfl⟩) (by assumption) ?_
   simp only[List.getElem_toArray,List.getElem_cons_zero,List.getElem_cons_succ,Act.put,List.setIfInBounds_toArray,List.set_cons_zero,List.set_cons_succ]
   refine wpAnyH_take (i:=18) (v:=?_) rfl (by kernel_rfl) (by kernel_rfl) (by kernel_rfl) (fun _ _ _ h=>h) (Or.inl ⟨by rfl,?_⟩) (by assumption) ?_
   rotate_left
   ·(intro w hSw;(try dsimp only at hSw);go_simp <;> with_reducible rfl)
   simp only[List.getElem_toArray,List.getElem_cons_zero,List.getElem_cons_succ,Act.put,List.setIfInBounds_toArray,List.set_cons_zero,List.set_cons_succ]
   refine wpAnyH_take (i:=19) (v:=?_) rfl (by kernel_rfl) (by kernel_rfl) (by kernel_rfl) (fun _ _ _ h=>h) (Or.inl ⟨by rfl,?_⟩) (by assumption) ?_
   rotate_left
   ·(intro w hSw;(try dsimp only at hSw);go_simp <;> with_reducible rfl)
   simp only[List.getElem_toArray,List.getElem_cons_zero,List.getElem_cons_succ,Act.put,List.setIfInBounds_toArray,List.set_cons_zero,List.set_cons_succ]
   refine wpAnyH_take (i:=20) (v:=?_) rfl (by kernel_rfl) (by kernel_rfl) (by kernel_rfl) (fun _ _ _ h=>h) (Or.inl ⟨by rfl,?_⟩) (by assumption) ?_
   rotate_left
   ·(intro w hSw;(try dsimp only at hSw);go_simp <;> with_reducible rfl)
   simp only[List.getElem_toArray,List.getElem_cons_zero,List.getElem_cons_succ,Act.put,List.setIfInBounds_toArray,List.set_cons_zero,List.set_cons_succ]
   refine wpAnyH_ready (rs:=[21]) (by kernel_rfl) (by simp) ?_
   refine AllReadyH.cons rfl (fun K hK=>?_) ?_
   rotate_left
   ·exact AllReadyH.nil
   go_simp
   refine hK.out _ _ ?_ (fun hHeld=>?_)
   ·exact ⟨(World.cell?_setCell_other w9 ⟨g,5,none⟩ ⟨g,0,none⟩ (.bool false) (by simp)).trans hHeld.1,(World.cell?_setCell_other w9 ⟨g,5,none⟩ ⟨g,2,none⟩ (.bool false) (by simp)).trans hHeld.2.1,(World.cell?_setCell_other w9 ⟨g,5,none⟩ ⟨g,3,none⟩ (.bool false) (by simp)).trans hHeld.2.2⟩
   clear hK K
   refine wpAnyH_done (by kernel_rfl) ?_ _
   refine NoPanic.normal ?_
   have W1:FlAt g s n (r.at':Int) (r.fin:Int) (.slice ao r.l.length cap) (false) ((w9.setCell ⟨g,5,none⟩ (.bool false)).drew):=heap_setCell_same _ _ 5 _ _ _ h9
   have G1:w9.grownBy ((w9.setCell ⟨g,5,none⟩ (.bool false)).drew) (some g):=⟨rfl,rfl,rfl,by simp[World.setCell],fun k hk hne=>heap_setCell_other w9 _ _ _ (fun e=>hne (by rw[e]))⟩
   clear hHeld
   generalize (w9.setCell ⟨g,5,none⟩ (.bool false)).drew=w4 at W1 G1 ⊢
   have c4:=W1.cell
   have H4:HasV 2 w4 (.slice ao r.l.length cap) r.l.length (comV r.l):=HH9.out.grown G1 (.inr hap)
   have X4:ComsR (fun k=>(Value.slice an L.length cn).ownBlock=some k) w4 (.slice an L.length cn) L:=((HasV.of_own HX9.out).grown G1 (.inr fun e=>by have:=(HX9.out.lt g e).1;omega)).toComs
   have HX4:=Lib.hid X4
   have HH4:=Lib.hid H4
   have HW1:=Lib.hid W1
   clear hc9 hz9 h9 hS1 hS2 H4 X4 W1
   go_wp2_with (at_builtin;refine appendH rfl _ _ rfl _ (.slice ao r.l.length cap) (.slice an L.length cn) r.l L rfl rfl HH4.out HX4.out (by omega) ?_;intro v5 w5 o5 g5 n5;rw[HCX.out] at o5;obtain ⟨a5,c5,rfl⟩:=o5.form;have W5:=HW1.out.grown g5 hap;have c5':=W5.cell;have z5':=W5.free;have HO5:=Lib.hid o5;clear o5)
   go_ret
   obtain ⟨f1,f2,f3,f4,f5⟩:=skip_end (E:=(E:Int)) b9 G1 g5 hap hg W5 HO5.out n5
   refine ⟨rfl,_,⟨?_,?_,f3,hok⟩,f4,f5⟩
   ·rw[HROW.out];exact f1
   ·rw[HROW.out];exact f2
  | true=>
   have CC:∀ W,Calls Tryz.prog 27 #[.string (s.extract r.fin r.at'),.string ⟨#[10]⟩] W fun e w'=>e=.returned (.bool !(sameRow s r.fin r.at'))∧w'=W:=fun W=>by
    have h1:=Tryz.strings_Contains_one (s.extract r.fin r.at') 10 W
    rw[lf_in hwf.le hwf.top] at h1
    exact h1
   have i1:(r.fin:Int)≤(r.at':Int):=by have:=hwf.le;omega
   have i2:(r.at':Int)≤(s.size:Int):=by have:=hwf.top;omega
   clear hl0
   go_wp2_with fail
   refine wp_region_noPanic ?_
   refine wp_region_held_drew (S:=fun w'=>(w'.cell? ⟨g,0,none⟩=some (.string s)∧w'.cell? ⟨g,2,none⟩=some (.int .i64 (r.at':Int))∧w'.cell? ⟨g,3,none⟩=some (.int .i64 (r.fin:Int)))) (by kernel_rfl) ?_ (fun hHeld=>?_)
   ·exact hS2
   refine wpAnyH_take (i:=0) (v:=?_) rfl (by kernel_rfl) (by kernel_rfl) (by kernel_rfl) (fun _ _ _ h=>h) (Or.inl ⟨by rfl,?_⟩) (by assumption) ?_
   rotate_left
   ·(intro w hSw;(try dsimp only at hSw);go_simp <;> with_reducible rfl)
   simp only[List.getElem_toArray,List.getElem_cons_zero,Act.put,List.setIfInBounds_toArray,List.set_cons_zero,List.set_cons_succ]
   refine wpAnyH_take (i:=1) (v:=?_) rfl (by kernel_rfl) (by kernel_rfl) (by kernel_rfl) (fun _ _ _ h=>h) (Or.inl ⟨by rfl,?_⟩) (by assumption) ?_
   rotate_left
   ·(intro w hSw;(try dsimp only at hSw);go_simp <;> with_reducible rfl)
   simp only[List.getElem_toArray,List.getElem_cons_zero,List.getElem_cons_succ,Act.put,List.setIfInBounds_toArray,List.set_cons_zero,List.set_cons_succ]
   refine wpAnyH_take (i:=2) (v:=?_) rfl (by kernel_rfl) (by kernel_rfl) (by kernel_rfl) (fun _ _ _ h=>h) (Or.inl ⟨by rfl,?_⟩) (by assumption) ?_
   rotate_left
   ·(intro w hSw;(try dsimp only at hSw);go_simp <;> with_reducible rfl)
   simp only[List.getElem_toArray,List.getElem_cons_zero,List.getElem_cons_succ,Act.put,List.setIfInBounds_toArray,List.set_cons_zero,List.set_cons_succ]
   refine wpAnyH_take (i:=3) (v:=?_) rfl (by kernel_rfl) (by kernel_rfl) (by kernel_rfl) (fun _ _ _ h=>h) (Or.inl ⟨by rfl,?_⟩) (by assumption) ?_
   rotate_left
   ·(intro w hSw;(try dsimp only at hSw);go_simp <;> with_reducible rfl)
   simp only[List.getElem_toArray,List.getElem_cons_zero,List.getElem_cons_succ,Act.put,List.setIfInBounds_toArray,List.set_cons_zero,List.set_cons_succ]
   refine wpAnyH_take (i:=4) (v:=?_) rfl (by kernel_rfl) (by kernel_rfl) (by kernel_rfl) (fun _ _ _ h=>h) (Or.inl ⟨by rfl,?_⟩) (by assumption) ?_
   rotate_left
   ·(intro w hSw;(try dsimp only at hSw);go_simp <;> with_reducible rfl)
   simp only[List.getElem_toArray,List.getElem_cons_zero,List.getElem_cons_succ,Act.put,List.setIfInBounds_toArray,List.set_cons_zero,List.set_cons_succ]
   refine wpAnyH_take (i:=5) (v:=?_) rfl (by kernel_rfl) (by kernel_rfl) (by kernel_rfl) (fun _ _ _ h=>h) (Or.inl ⟨by rfl,?_⟩) (by assumption) ?_
   rotate_left
   ·(intro w hSw;(try dsimp only at hSw);go_simp <;> with_reducible rfl)
   simp only[List.getElem_toArray,List.getElem_cons_zero,List.getElem_cons_succ,Act.put,List.setIfInBounds_toArray,List.set_cons_zero,List.set_cons_succ]
   refine wpAnyH_take (i:=6) (v:=?_) rfl (by kernel_rfl) (by kernel_rfl) (by kernel_rfl) (fun _ _ _ h=>h) (Or.inl ⟨by rfl,?_⟩) (by assumption) ?_
   rotate_left
   ·(intro w hSw;(try dsimp only at hSw);go_simp <;> with_reducible rfl)
   simp only[List.getElem_toArray,List.getElem_cons_zero,List.getElem_cons_succ,Act.put,List.setIfInBounds_toArray,List.set_cons_zero,List.set_cons_succ]
   refine wpAnyH_take (i:=7) (v:=?_) rfl (by kernel_rfl) (by kernel_rfl) (by kernel_rfl) (fun _ _ _ h=>h) (Or.inl ⟨by rfl,?_⟩) (by assumption) ?_
   rotate_left
   ·(intro w hSw;(try dsimp only at hSw);go_simp <;> with_reducible rfl)
   simp only[List.getElem_toArray,List.getElem_cons_zero,List.getElem_cons_succ,Act.put,List.setIfInBounds_toArray,List.set_cons_zero,List.set_cons_succ]
   refine wpAnyH_take (i:=8) (v:=?_) rfl (by kernel_rfl) (by kernel_rfl) (by kernel_rfl) (fun _ _ _ h=>h) (Or.inl ⟨by rfl,?_⟩) (by assumption) ?_
   rotate_left
   ·(intro w hSw;(try dsimp only at hSw);go_simp <;> with_reducible rfl)
   simp only[List.getElem_toArray,List.getElem_cons_zero,List.getElem_cons_succ,Act.put,List.setIfInBounds_toArray,List.set_cons_zero,List.set_cons_succ]
   refine wpAnyH_take (i:=9) (v:=?_) rfl (by kernel_rfl) (by kernel_rfl) (by kernel_rfl) (fun _ _ _ h=>h) (Or.inl ⟨by rfl,?_⟩) (by assumption) ?_
   rotate_left
   ·(intro w hSw;(try dsimp only at hSw);go_simp <;> with_reducible rfl)
   simp only[List.getElem_toArray,List.getElem_cons_zero,List.getElem_cons_succ,Act.put,List.setIfInBounds_toArray,List.set_cons_zero,List.set_cons_succ]
   refine wpAnyH_take (i:=10) (v:=?_) rfl (by kernel_rfl) (by kernel_rfl) (by kernel_rfl) (fun _ _ _ h=>h) (Or.inl ⟨by rfl,?_⟩) (by assumption) ?_
   rotate_left
   ·(intro w hSw;(try dsimp only at hSw);go_simp <;> with_reducible rfl)
   simp only[List.getElem_toArray,List.getElem_cons_zero,List.getElem_cons_succ,Act.put,List.setIfInBounds_toArray,List.set_cons_zero,List.set_cons_succ]
   refine wpAnyH_take (i:=11) (v:=?_) rfl (by kernel_rfl) (by kernel_rfl) (by kernel_rfl) (fun _ _ _ h=>h) (Or.inl ⟨by rfl,?_⟩) (by assumption) ?_
   rotate_left
   ·(intro w hSw;(try dsimp only at hSw);go_simp <;> with_reducible rfl)
   simp only[List.getElem_toArray,List.getElem_cons_zero,List.getElem_cons_succ,Act.put,List.setIfInBounds_toArray,List.set_cons_zero,List.set_cons_succ]
   refine wpAnyH_take (i:=12) (v:=?_) rfl (by kernel_rfl) (by kernel_rfl) (by kernel_rfl) (fun _ _ _ h=>h) (Or.inl ⟨by rfl,?_⟩) (by assumption) ?_
   rotate_left
   ·(intro w hSw;(try dsimp only at hSw);go_simp <;> with_reducible rfl)
   simp only[List.getElem_toArray,List.getElem_cons_zero,List.getElem_cons_succ,Act.put,List.setIfInBounds_toArray,List.set_cons_zero,List.set_cons_succ]
   refine wpAnyH_take (i:=13) (v:=?_) rfl (by kernel_rfl) (by kernel_rfl) (by kernel_rfl) (fun _ _ _ h=>h) (Or.inl ⟨by rfl,?_⟩) (by assumption) ?_
   rotate_left
   ·(intro w hSw;(try dsimp only at hSw);go_simp <;> with_reducible rfl)
   simp only[List.getElem_toArray,List.getElem_cons_zero,List.getElem_cons_succ,Act.put,List.setIfInBounds_toArray,List.set_cons_zero,List.set_cons_succ]
   refine wpAnyH_take (i:=14) (v:=?_) rfl (by kernel_rfl) (by kernel_rfl) (by kernel_rfl) (fun _ _ _ h=>h) (Or.inl ⟨by rfl,?_⟩) (by assumption) ?_
   rotate_left
   ·(intro w hSw;(try dsimp only at hSw);go_simp <;> with_reducible rfl)
   simp only[List.getElem_toArray,List.getElem_cons_zero,List.getElem_cons_succ,Act.put,List.setIfInBounds_toArray,List.set_cons_zero,List.set_cons_succ]
   refine wpAnyH_take (i:=15) (v:=?_) rfl (by kernel_rfl) (by kernel_rfl) (by kernel_rfl) (fun _ _ _ h=>h) (Or.inl ⟨by rfl,?_⟩) (by assumption) ?_
   rotate_left
   ·(intro w hSw;(try dsimp only at hSw);go_simp <;> with_reducible rfl)
   simp only[List.getElem_toArray,List.getElem_cons_zero,List.getElem_cons_succ,Act.put,List.setIfInBounds_toArray,List.set_cons_zero,List.set_cons_succ]
   refine wpAnyH_ready (rs:=[16]) (by kernel_rfl) (by simp) ?_
   refine AllReadyH.cons rfl (fun K hK=>?_) ?_
   rotate_left
   ·exact AllReadyH.nil
   go_simp
   go_at_call 27
   refine (CC _).mono ?_
   rintro e w8 ⟨rfl,rfl⟩
   refine hK.out _ _ ?_ (fun hHeld=>?_)
   ·exact hHeld
   clear hK K
   refine wpAnyH_take (i:=17) (v:=?_) rfl (by kernel_rfl) (by kernel_rfl) (by kernel_rfl) (fun _ _ _ h=>h) (Or.inl ⟨by rfl,?_⟩) (by assumption) ?_
   rotate_left
   ·(intro w hSw;(try dsimp only at hSw);go_simp <;> with_reducible rfl)
   simp only[List.getElem_toArray,List.getElem_cons_zero,List.getElem_cons_succ,Act.put,List.setIfInBounds_toArray,List.set_cons_zero,List.set_cons_succ]
   refine wpAnyH_take (i:=18) (v:=?_) rfl (by kernel_rfl) (by kernel_rfl) (by kernel_rfl) (fun _ _ _ h=>h) (Or.inl ⟨by rfl,?_⟩) (by assumption) ?_
   rotate_left
   ·(intro w hSw;(try dsimp only at hSw);go_simp <;> with_reducible rfl)
   simp only[List.getElem_toArray,List.getElem_cons_zero,List.getElem_cons_succ,Act.put,List.setIfInBounds_toArray,List.set_cons_zero,List.set_cons_succ]
   refine wpAnyH_take (i:=19) (v:=?_) rfl (by kernel_rfl) (by kernel_rfl) (by kernel_rfl) (fun _ _ _ h=>h) (Or.inl ⟨by rfl,?_⟩) (by assumption) ?_
   rotate_left
   ·(intro w hSw;(try dsimp only at hSw);go_simp <;> with_reducible rfl)
   simp only[List.getElem_toArray,List.getElem_cons_zero,List.getElem_cons_succ,Act.put,List.setIfInBounds_toArray,List.set_cons_zero,List.set_cons_succ]
   refine wpAnyH_take (i:=20) (v:=?_) rfl (by kernel_rfl) (by kernel_rfl) (by kernel_rfl) (fun _ _ _ h=>h) (Or.inl ⟨by rfl,?_⟩) (by assumption) ?_
   rotate_left
   ·(intro w hSw;(try dsimp only at hSw);go_simp <;> with_reducible rfl)
   simp only[List.getElem_toArray,List.getElem_cons_zero,List.getElem_cons_succ,Act.put,List.setIfInBounds_toArray,List.set_cons_zero,List.set_cons_succ]
   refine wpAnyH_ready (rs:=[21]) (by kernel_rfl) (by simp) ?_
   refine AllReadyH.cons rfl (fun K hK=>?_) ?_
   rotate_left
   ·exact AllReadyH.nil
   go_simp
   refine hK.out _ _ ?_ (fun hHeld=>?_)
   ·exact ⟨(World.cell?_setCell_other w9 ⟨g,5,none⟩ ⟨g,0,none⟩ (.bool (sameRow s r.fin r.at')) (by simp)).trans hHeld.1,(World.cell?_setCell_other w9 ⟨g,5,none⟩ ⟨g,2,none⟩ (.bool (sameRow s r.fin r.at')) (by simp)).trans hHeld.2.1,(World.cell?_setCell_other w9 ⟨g,5,none⟩ ⟨g,3,none⟩ (.bool (sameRow s r.fin r.at')) (by simp)).trans hHeld.2.2⟩
   clear hK K
   refine wpAnyH_done (by kernel_rfl) ?_ _
   refine NoPanic.normal ?_
   have W1:FlAt g s n (r.at':Int) (r.fin:Int) (.slice ao r.l.length cap) ((sameRow s r.fin r.at')) ((w9.setCell ⟨g,5,none⟩ (.bool (sameRow s r.fin r.at'))).drew):=heap_setCell_same _ _ 5 _ _ _ h9
   have G1:w9.grownBy ((w9.setCell ⟨g,5,none⟩ (.bool (sameRow s r.fin r.at'))).drew) (some g):=⟨rfl,rfl,rfl,by simp[World.setCell],fun k hk hne=>heap_setCell_other w9 _ _ _ (fun e=>hne (by rw[e]))⟩
   clear hHeld
   generalize (w9.setCell ⟨g,5,none⟩ (.bool (sameRow s r.fin r.at'))).drew=w4 at W1 G1 ⊢
   have c4:=W1.cell
   have H4:HasV 2 w4 (.slice ao r.l.length cap) r.l.length (comV r.l):=HH9.out.grown G1 (.inr hap)
   have X4:ComsR (fun k=>(Value.slice an L.length cn).ownBlock=some k) w4 (.slice an L.length cn) L:=((HasV.of_own HX9.out).grown G1 (.inr fun e=>by have:=(HX9.out.lt g e).1;omega)).toComs
   have HX4:=Lib.hid X4
   have HH4:=Lib.hid H4
   have HW1:=Lib.hid W1
   clear hc9 hz9 h9 hS1 hS2 H4 X4 W1
   go_wp2_with (at_builtin;refine appendH rfl _ _ rfl _ (.slice ao r.l.length cap) (.slice an L.length cn) r.l L rfl rfl HH4.out HX4.out (by omega) ?_;intro v5 w5 o5 g5 n5;rw[HCX.out] at o5;obtain ⟨a5,c5,rfl⟩:=o5.form;have W5:=HW1.out.grown g5 hap;have c5':=W5.cell;have z5':=W5.free;have HO5:=Lib.hid o5;clear o5)
   go_ret
   obtain ⟨f1,f2,f3,f4,f5⟩:=skip_end (E:=(E:Int)) b9 G1 g5 hap hg W5 HO5.out n5
   refine ⟨rfl,_,⟨?_,?_,f3,hok⟩,f4,f5⟩
   ·rw[HROW.out];exact f1
   ·rw[HROW.out];exact f2
 ·have hlz:((r.l.length:Int)==0)=false:=by rw[beq_eq_false_iff_ne];omega
  have hrow:skipped s r L S E=⟨X,r.same,r.fin,E⟩:=by unfold skipped;rw[if_neg hl0,hX]
  clear hX
  have hS1:True:=trivial
  have hS2:True:=trivial
  have HROW:=Lib.hid hrow
  clear hrow hl0
  have W1:=h9
  have G1:w9.grownBy w9 (some g):=World.grownBy.refl _ _
  obtain ⟨w4,hw4⟩:∃ w4,w4=w9:=⟨_,rfl⟩
  rw[←hw4] at W1 ⊢
  have G2:w9.grownBy w4 (some g):=by rw[hw4];exact G1
  clear G1 hw4
  have G1:=G2
  have c4:=W1.cell
  have H4:HasV 2 w4 (.slice ao r.l.length cap) r.l.length (comV r.l):=HH9.out.grown G1 (.inr hap)
  have X4:ComsR (fun k=>(Value.slice an L.length cn).ownBlock=some k) w4 (.slice an L.length cn) L:=((HasV.of_own HX9.out).grown G1 (.inr fun e=>by have:=(HX9.out.lt g e).1;omega)).toComs
  have HX4:=Lib.hid X4
  have HH4:=Lib.hid H4
  have HW1:=Lib.hid W1
  clear hc9 hz9 h9 hS1 hS2 H4 X4 W1
  go_wp2_with (at_builtin;refine appendH rfl _ _ rfl _ (.slice ao r.l.length cap) (.slice an L.length cn) r.l L rfl rfl HH4.out HX4.out (by omega) ?_;intro v5 w5 o5 g5 n5;rw[HCX.out] at o5;obtain ⟨a5,c5,rfl⟩:=o5.form;have W5:=HW1.out.grown g5 hap;have c5':=W5.cell;have z5':=W5.free;have HO5:=Lib.hid o5;clear o5)
  go_ret
  obtain ⟨f1,f2,f3,f4,f5⟩:=skip_end (E:=(E:Int)) b9 G1 g5 hap hg W5 HO5.out n5
  refine ⟨rfl,_,⟨?_,?_,f3,hok⟩,f4,f5⟩
  ·rw[HROW.out];exact f1
  ·rw[HROW.out];exact f2
end Go.Proofs.YtncngeamdechmaaGreatDoor
namespace Go.Proofs.YtncngeamdechmaaGreatDoor
open Go.RowKit
attribute [local go_sem ↓] Go.wp_at_zero Go.wp_at_succ
mutual
def NT.sz:NT→Nat
 | .mk _ k=>szL k+1
def szL:List NT→Nat
 | []=>0
 | t :: ts=>t.sz+szL ts
end
theorem szL_at:∀ (l:List NT) (j:Nat) (hj:j<l.length),l[j].sz≤szL l
 | [],j,hj=>absurd hj (Nat.not_lt_zero _)
 | t :: ts,0,hj=>by unfold szL;exact Nat.le_add_right _ _
 | t :: ts,j+1,hj=>by unfold szL;exact Nat.le_trans (szL_at ts j (by simpa using hj)) (Nat.le_add_left _ _)
theorem sz_kids (t:NT):szL t.kids+1=t.sz:=by cases t;unfold NT.sz;rfl
theorem kid_cells {R:Nat→Prop} {w:World} {b o:Nat} {ts:List NT} (hk:IsKids R w b o ts) {j:Nat} (hj:j<ts.length) :
  ∃ v0 v1 v2 v3 v4 v5 v6 v7 v8 v9 v10 v11,IsN R w ts[j] [v0,v1,v2,v3,v4,v5,v6,v7,v8,v9,v10,v11]∧w.cell? ⟨b,o+j*12,none⟩=some v0∧w.cell? ⟨b,o+j*12+1,none⟩=some v1∧w.cell? ⟨b,o+j*12+2,none⟩=some v2∧w.cell? ⟨b,o+j*12+3,none⟩=some v3∧w.cell? ⟨b,o+j*12+4,none⟩=some v4∧w.cell? ⟨b,o+j*12+5,none⟩=some v5∧w.cell? ⟨b,o+j*12+6,none⟩=some v6∧w.cell? ⟨b,o+j*12+7,none⟩=some v7∧w.cell? ⟨b,o+j*12+8,none⟩=some v8∧w.cell? ⟨b,o+j*12+9,none⟩=some v9∧w.cell? ⟨b,o+j*12+10,none⟩=some v10∧w.cell? ⟨b,o+j*12+11,none⟩=some v11:=by
 obtain ⟨cs,h1,h2⟩:=IsKids.at ts o j hj hk
 obtain ⟨kv,lv,fv,e,_⟩:=h2.open
 subst e
 exact ⟨_,_,_,_,_,_,_,_,_,_,_,_,h2,h1 0 (by decide),h1 1 (by decide),h1 2 (by decide),h1 3 (by decide),h1 4 (by decide),h1 5 (by decide),h1 6 (by decide),h1 7 (by decide),h1 8 (by decide),h1 9 (by decide),h1 10 (by decide),h1 11 (by decide)⟩
end Go.Proofs.YtncngeamdechmaaGreatDoor
