/- Parts of the proof, put together from smaller texts (blanks that Lean does not want are struck). Conditions: those that each theorem writes out. -/
import Derived.Test.YthcmkpiajkbpnaaGreatDoorZ22
namespace Go.Proofs.YthcmkpiajkbpnaaGreatDoor
open Go.RowKit
theorem TrM.put {g:Nat} {s:ByteArray} {w w3 w12:World} {p:Nat} {v:Value} {L:Coms} {R:Nat→Prop} (M:TrM g s w w3 p v L R) (A:Nat→Prop) (hA:∀ k,A k→w.heap.size≤k∧k≠g∧¬ R k∧v.ownBlock≠some k) (hs:∀ k,¬ A k→w12.heap[k]?=w3.heap[k]?) (hz:w12.heap.size=w3.heap.size) (ho:w12.os=w3.os∧w12.tape=w3.tape∧w12.output=w3.output):TrM g s w w12 p v L R:=
 ⟨(hs g (fun h=>(hA g h).2.1 rfl)).trans M.cells,M.has.keep (fun k hk _=>hs k (fun h=>(hA k h).2.2.2 hk)),M.own,fun k hk=>⟨(M.new k hk).1,by rw[hz];exact (M.new k hk).2⟩,M.keep.trans (Q:=fun k=>¬ A k) ⟨ho.1,ho.2.1,ho.2.2,by rw[hz];exact Nat.le_refl _,hs⟩ (fun k hk h=>absurd hk.1 (Nat.not_lt.2 (hA k h).1)),M.le,M.few⟩
section
variable (g:Nat) (s:ByteArray) (p:Nat) (v:Value) (w:World) (b:Nat) (n:Int) (d fro:Nat)
set_option maxRecDepth 100000 in
set_option maxHeartbeats 800000 in
theorem trBeside_ok (h:TrAt g s p v w) (hf:fro≤p) (hp:p≤s.size) (hc:b=0∨sameRow s fro p=false∨(b≠1∧b≠5∧NoTab s fro p)) :
  Calls Tryz.prog 29 #[.pointer (some ⟨g,0,none⟩),.agg #[.int .i64 (b:Int),.int .i64 n,.int .i64 (d:Int)],.int .i64 (fro:Int)] w fun e w'=>e=.returned (.tuple #[])∧Below w.heap.size w w':=by
 obtain ⟨W1,hW1⟩:∃ W1,W1=w.alloc (.cells #[.int .i64 (b:Int),.int .i64 n,.int .i64 (d:Int)] 55):=⟨_,rfl⟩
 have b1:Below w.heap.size w W1:=by rw[hW1];exact (Below.refl _ _).alloc (Nat.le_refl _) _
 have r1:W1.heap[w.heap.size]?=some (.cells #[.int .i64 (b:Int),.int .i64 n,.int .i64 (d:Int)] 55 (0,0)):=by rw[hW1];exact heap_alloc_new w _
 have q1:∀ k j,(W1.drewN k).cell? ⟨w.heap.size,j,none⟩=(#[.int .i64 (b:Int),.int .i64 n,.int .i64 (d:Int)]:Array Value)[j]?:=fun k j=>cell_of_row W1 _ j _ _ _ r1
 have q0:=q1 0
 have h1:TrAt g s p v W1:=h.below b1 h.lt
 have HW:=Lib.hid hW1
 have HB:=Lib.hid b1
 have HT:=Lib.hid h1
 have CB:=trBelow_is g s p v W1 fro h1 hf hp
 clear hW1 b1 r1 h h1
 by_cases hb0:b=0
 ·have e0:((b:Int)==0)=true:=by rw[beq_iff_eq];omega
  clear CB hc hb0
  go_enter Tryz.func29,Tryz.ntmps29
  go_wp2_with fail
  refine bodyPost_ret (results_none rfl _ _ _) rfl ?_
  first|exact ⟨rfl,HB.out⟩|(rw[←HW.out];exact ⟨rfl,HB.out⟩)
 have e0:((b:Int)==0)=false:=by rw[beq_eq_false_iff_ne];omega
 cases hr:sameRow s fro p with
 | false=>
  rw[hr] at CB
  have CB:Calls Tryz.prog 51 #[.pointer (some ⟨g,0,none⟩),.int .i64 (fro:Int)] W1 fun e w'=>e=.returned (.bool true)∧∃ k,w'=W1.drewN k:=CB
  clear hc hr
  go_enter Tryz.func29,Tryz.ntmps29
  go_wp2_with fail
  rw[←HW.out]
  refine CB.mono ?_
  rintro e w2 ⟨rfl,k,rfl⟩
  go_wp2_with fail
  refine bodyPost_ret (results_none rfl _ _ _) rfl ?_
  exact ⟨rfl,Go.below_drewN HB.out _⟩
 | true=>
  rw[hr] at CB
  have CB:Calls Tryz.prog 51 #[.pointer (some ⟨g,0,none⟩),.int .i64 (fro:Int)] W1 fun e w'=>e=.returned (.bool false)∧∃ k,w'=W1.drewN k:=CB
  obtain ⟨n1,n5,hn⟩:=(hc.resolve_left hb0).resolve_left (by rw[hr];decide)
  have e1:((b:Int)==1)=false:=by rw[beq_eq_false_iff_ne];omega
  have e5:((b:Int)==5)=false:=by rw[beq_eq_false_iff_ne];omega
  have i1:(fro:Int)≤(p:Int):=by omega
  have i2:(p:Int)≤(s.size:Int):=by omega
  have CI:∀ W,Calls Tryz.prog 42 #[.string (s.extract fro p),.int .u8 9] W fun e w'=>e=.returned (.int .i64 (-1))∧w'=W:=fun W=>by
   have h1:=Tryz.strings_IndexByte (s.extract fro p) 9 W
   rcases tab_idx (s:=s) (x:=fro) (q:=p) hp with ⟨y2,h2,_⟩|⟨_,h2⟩
   ·exact absurd h2.2.2.1 (hn y2 h2.2.1 h2.1)
   ·rw[←h2];exact h1
  clear hc hr n1 n5 hn hb0
  go_enter Tryz.func29,Tryz.ntmps29
  go_wp2_with fail
  rw[←HW.out]
  refine CB.mono ?_
  rintro e w2 ⟨rfl,k,rfl⟩
  go_wp2_with fail
  obtain ⟨w3,hw3⟩:∃ w3,w3=W1.drewN k:=⟨_,rfl⟩
  have h3:TrAt g s p v w3:=by rw[hw3];exact HT.out.drewN k
  have b3:Below w.heap.size w w3:=by rw[hw3];exact Go.below_drewN HB.out k
  have q3:∀ j,w3.cell? ⟨w.heap.size,j,none⟩=(#[.int .i64 (b:Int),.int .i64 n,.int .i64 (d:Int)]:Array Value)[j]?:=by rw[hw3];exact q1 k
  have c3:=h3.cell
  rw[←hw3]
  clear hw3 CB q0 q1
  go_quiet (first|exact Calls.quiet_of_same (CI _))
  go_wp2_with fail
  go_end0
  exact ⟨rfl,Go.below_drewN b3 _⟩
set_option maxRecDepth 100000 in
set_option maxHeartbeats 800000 in
theorem trBeside_bad (h:TrAt g s p v w) (hs:s.size≤10000) (hf:fro≤p) (hp:p≤s.size) (hb0:b≠0) (hr:sameRow s fro p=true) (q:Nat) (c:Int) (hc:((b=1∨b=5)∧q=p∧c=5)∨(b≠1∧b≠5∧TabN s fro p q∧c=4)) :
  Calls Tryz.prog 29 #[.pointer (some ⟨g,0,none⟩),.agg #[.int .i64 (b:Int),.int .i64 n,.int .i64 (d:Int)],.int .i64 (fro:Int)] w fun e w'=>e=flt q c∧Below w.heap.size w w':=by
 obtain ⟨W1,hW1⟩:∃ W1,W1=w.alloc (.cells #[.int .i64 (b:Int),.int .i64 n,.int .i64 (d:Int)] 55):=⟨_,rfl⟩
 have b1:Below w.heap.size w W1:=by rw[hW1];exact (Below.refl _ _).alloc (Nat.le_refl _) _
 have r1:W1.heap[w.heap.size]?=some (.cells #[.int .i64 (b:Int),.int .i64 n,.int .i64 (d:Int)] 55 (0,0)):=by rw[hW1];exact heap_alloc_new w _
 have q1:∀ k j,(W1.drewN k).cell? ⟨w.heap.size,j,none⟩=(#[.int .i64 (b:Int),.int .i64 n,.int .i64 (d:Int)]:Array Value)[j]?:=fun k j=>cell_of_row W1 _ j _ _ _ r1
 have q0:=q1 0
 have h1:TrAt g s p v W1:=h.below b1 h.lt
 have HW:=Lib.hid hW1
 have HB:=Lib.hid b1
 have HT:=Lib.hid h1
 have CB:=trBelow_is g s p v W1 fro h1 hf hp
 rw[hr] at CB
 have CB:Calls Tryz.prog 51 #[.pointer (some ⟨g,0,none⟩),.int .i64 (fro:Int)] W1 fun e w'=>e=.returned (.bool false)∧∃ k,w'=W1.drewN k:=CB
 have e0:((b:Int)==0)=false:=by rw[beq_eq_false_iff_ne];omega
 have step:∀ k,∃ w3,w3=W1.drewN k∧TrAt g s p v w3∧Below w.heap.size w w3∧∀ j,w3.cell? ⟨w.heap.size,j,none⟩=(#[.int .i64 (b:Int),.int .i64 n,.int .i64 (d:Int)]:Array Value)[j]?:=fun k=>⟨_,rfl,HT.out.drewN k,Go.below_drewN HB.out k,q1 k⟩
 clear hW1 b1 r1 h h1 q1 hr
 rcases hc with ⟨h15,rfl,rfl⟩|⟨n1,n5,ht,rfl⟩
 ·have e15:((b:Int)==1)=true∨(((b:Int)==1)=false∧((b:Int)==5)=true):=by
   rcases h15 with e|e
   ·left;rw[beq_iff_eq];omega
   ·right;rw[beq_eq_false_iff_ne,beq_iff_eq];omega
  clear h15 hb0
  rcases e15 with e1|⟨e1,e5⟩
  all_goals
   go_enter Tryz.func29,Tryz.ntmps29
   go_wp2_with fail
   rw[←HW.out]
   refine CB.mono ?_
   rintro e w2 ⟨rfl,k,rfl⟩
   obtain ⟨w3,hw3,h3,b3,q3⟩:=step k
   have c3:=h3.cell
   rw[←hw3]
   clear hw3 CB q0 step
   go_wp2_with fail
   refine (trRaise_is q 5 _).mono ?_
   rintro e w4 ⟨rfl,rfl⟩
   exact ⟨rfl,rfl,b3⟩
 ·have e1:((b:Int)==1)=false:=by rw[beq_eq_false_iff_ne];omega
  have e5:((b:Int)==5)=false:=by rw[beq_eq_false_iff_ne];omega
  have i1:(fro:Int)≤(p:Int):=by omega
  have i2:(p:Int)≤(s.size:Int):=by omega
  obtain ⟨ix,hix⟩:∃ ix,Lib.indexByte (s.extract fro p).data.toList (9:Int).toNat.toUInt8=ix:=⟨_,rfl⟩
  have CI:∀ W,Calls Tryz.prog 42 #[.string (s.extract fro p),.int .u8 9] W fun e w'=>e=.returned (.int .i64 ix)∧w'=W:=fun W=>by
   have h1:=Tryz.strings_IndexByte (s.extract fro p) 9 W
   rw[←hix];exact h1
  have hxq:(fro:Int)+ix=(q:Int)∧0≤ix:=by
   have h:=tab_idx (s:=s) (x:=fro) (q:=p) hp
   rw[hix] at h
   rcases h with ⟨y2,h1,h2⟩|⟨h2,_⟩
   ·have h3:=ht.uniq h1
    have:=h1.1
    omega
   ·exact absurd ht.2.2.1 (h2 q ht.2.1 ht.1)
  obtain ⟨x1,x2⟩:=hxq
  have hq2:=ht.2.1
  clear ht hix n1 n5 hb0
  go_enter Tryz.func29,Tryz.ntmps29
  go_wp2_with fail
  rw[←HW.out]
  refine CB.mono ?_
  rintro e w2 ⟨rfl,k,rfl⟩
  obtain ⟨w3,hw3,h3,b3,q3⟩:=step k
  have c3:=h3.cell
  rw[←hw3]
  clear hw3 CB q0 step
  go_wp2_with fail
  go_quiet (first|exact Calls.quiet_of_same (CI _))
  go_wp2_with fail
  refine (trRaise_is q 4 _).mono ?_
  rintro e w4 ⟨rfl,rfl⟩
  exact ⟨rfl,rfl,Go.below_drewN b3 _⟩
end
def OwnG (g:Nat) (s:ByteArray) (w:World) (vo:Value) (y:Tre × Coms) (e:Ending) (w':World):Prop:=∃ cs v R,e=.returned (.agg cs.toArray)∧IsN (fun k=>R k∨vo.ownBlock=some k) w' (y.1.1.withLead y.2) cs∧TrM g s w w' y.1.2.2 v y.1.2.1 R
theorem own_end {g:Nat} {s:ByteArray} {w w3 w5 w12:World} {x:Tre} {L:Coms} {v:Value} {R:Nat→Prop} {c0 c1 c2 c3 c4 c5 c6 c7 c8 c9 c10 c11 vo:Value} (M:TrM g s w3 w5 x.2.2 v x.2.1 R) (hN:IsN R w5 x.1 [c0,c1,c2,c3,c4,c5,c6,c7,c8,c9,c10,c11]) (k03:Keep (Lx g w.heap.size) w w3) (z03:w.heap.size+3≤w3.heap.size) (hg:g<w.heap.size) (hv:HasV 2 w vo L.length (comV L)∧vo.ownBlock≠some g)
  (hs:∀ k,¬ k=w.heap.size+1→¬ k=w.heap.size+2→w12.heap[k]?=w5.heap[k]?) (hz:w12.heap.size=w5.heap.size) (ho:w12.os=w5.os∧w12.tape=w5.tape∧w12.output=w5.output) :
  OwnG g s w vo (x,L) (.returned (.agg #[c0,c1,c2,c3,c4,c5,c6,c7,vo,c9,c10,c11])) w12:=by
 have hnew:∀ k,R k→w.heap.size+3≤k:=fun k hk=>by have:=(M.new k hk).1;omega
 have hown:∀ k,v.ownBlock=some k→w.heap.size+3≤k:=fun k hk=>by have:=(M.own k hk).1;omega
 have MP:=(M.mono k03).put (w12:=w12) (fun k=>k=w.heap.size+1∨k=w.heap.size+2) (fun k hk=>⟨by omega,by omega,fun h=>by have:=hnew k h;omega,fun h=>by have:=hown k h;omega⟩) (fun k hk=>hs k (fun e=>hk (.inl e)) (fun e=>hk (.inr e))) hz ho
 refine ⟨_,v,R,rfl,?_,MP⟩
 obtain ⟨kv,lv,fv,e,h1,h2,h3⟩:=hN.open
 unfold headC at e
 simp only[List.cons.injEq,and_true] at e
 obtain ⟨rfl,rfl,rfl,rfl,rfl,rfl,rfl,rfl,rfl,rfl,rfl,rfl⟩:=e
 have fr:∀ b,R b→(R b∨vo.ownBlock=some b)∧w12.heap[b]?=w5.heap[b]?:=fun b hb=>⟨.inl hb,hs b (by have:=hnew b hb;omega) (by have:=hnew b hb;omega)⟩
 have hv12:HasV 2 w12 vo L.length (comV L):=hv.1.keep fun k hk hlt=>(hs k (by omega) (by omega)).trans ((M.keep.block k ⟨by omega,fun e=>hv.2 (by rw[hk,e])⟩).trans (k03.block k ⟨hlt,fun e=>hv.2 (by rw[hk,e])⟩))
 exact IsN.shut (hd:={ x.1.h with lead:=L }) (hv12.toComs.frame fun b hb=>⟨.inr hb,rfl⟩) (h2.frame fr) (h3.frame fr)
def BlkC (w0:World) (g:Nat) (s:ByteArray) (blk:Nat→Nat→Rd Tre→Prop):Prop:=∀ (d p:Nat) (v:Value) (o:Rd Tre) (w:World),Below w0.heap.size w0 w→v=.slice none 0 0→TrAt g s p v w→p<s.size→U.white (byt s p:Int)=false→blk d p o →
 Calls Tryz.prog 30 #[.pointer (some ⟨g,0,none⟩),.int .i64 (d:Int)] w fun e w'=>TrPost g w o (NodG g s w) e w'
set_option maxRecDepth 100000 in
set_option maxHeartbeats 1600000 in
theorem trOwned_is {Ev:World→Prop} {P:ByteArray→Prop} (K:CntC Ev P) (w0:World) (hEv:Ev w0) (g:Nat) (hg0:w0.heap.size≤g) (s:ByteArray) (hs:s.size≤10000) (hPs:P s) (blk:Nat→Nat→Rd Tre→Prop) (hblk:BlkC w0 g s blk) (b:Nat) (n:Int) (d E p:Nat) (L:Coms) (S:Bool) (v:Value) (o:Rd (Tre × Coms)) (w:World) (hB:Below w0.heap.size w0 w) (h:TrAt g s p v w) (hH:HasV 2 w v L.length (comV L)) (hap:v.ownBlock≠some g) (hE:E≤p) (hp:p<s.size) (hw:U.white (byt s p:Int)=false) (ho:ownP s blk n d E (L,S,p) o) :
  Calls Tryz.prog 55 #[.pointer (some ⟨g,0,none⟩),.agg #[.int .i64 (b:Int),.int .i64 n,.int .i64 (d:Int)],.int .i64 (E:Int)] w fun e w'=>TrPost g w o (OwnG g s w v) e w':=by
 have hg:=h.lt
 obtain ⟨va,vc,rfl⟩:=hH.form
 obtain ⟨vn,hvn⟩:∃ vn,L.length=vn:=⟨_,rfl⟩
 rw[hvn] at h hH hap ⊢
 obtain ⟨W1,hW1⟩:∃ W1,W1=(w.alloc (.cells #[.int .i64 (b:Int),.int .i64 n,.int .i64 (d:Int)] 55)).alloc (.cells #[.int .i64 0,.int .i64 0,.int .i64 0,.int .i64 0,.string ⟨#[]⟩,.string ⟨#[]⟩,.string ⟨#[]⟩,.slice none 0 0,.slice none 0 0,.slice none 0 0,.bool false,.string ⟨#[]⟩] 27):=⟨_,rfl⟩
 have u1:W1.heap.size=w.heap.size+2:=by rw[hW1];simp
 have b1:Below w.heap.size w W1:=by rw[hW1];exact ((Below.refl _ _).alloc (Nat.le_refl _) _).alloc (by simp) _
 have rp:W1.heap[w.heap.size]?=some (.cells #[.int .i64 (b:Int),.int .i64 n,.int .i64 (d:Int)] 55 (0,0)):=by rw[hW1];exact (heap_alloc_old _ _ (by simp)).trans (heap_alloc_new w _)
 have ra:W1.heap[w.heap.size+1]?=some (.cells #[.int .i64 0,.int .i64 0,.int .i64 0,.int .i64 0,.string ⟨#[]⟩,.string ⟨#[]⟩,.string ⟨#[]⟩,.slice none 0 0,.slice none 0 0,.slice none 0 0,.bool false,.string ⟨#[]⟩] 27 (0,0)):=by
  rw[hW1]
  have:=heap_alloc_new (w.alloc (.cells #[.int .i64 (b:Int),.int .i64 n,.int .i64 (d:Int)] 55)) (.cells #[.int .i64 0,.int .i64 0,.int .i64 0,.int .i64 0,.string ⟨#[]⟩,.string ⟨#[]⟩,.string ⟨#[]⟩,.slice none 0 0,.slice none 0 0,.slice none 0 0,.bool false,.string ⟨#[]⟩] 27)
  simpa using this
 have h1:=h.below b1 hg
 have C1:=trTake_is g s p _ W1 h1
 obtain ⟨W3,hW3⟩:∃ W3,W3=(W1.setCell ⟨g,2,none⟩ (.slice none 0 0)).alloc (.cells #[.int .i64 0,.int .i64 0,.int .i64 0,.int .i64 0,.string ⟨#[]⟩,.string ⟨#[]⟩,.string ⟨#[]⟩,.slice none 0 0,.slice none 0 0,.slice none 0 0,.bool false,.string ⟨#[]⟩] 27):=⟨_,rfl⟩
 have z03:W3.heap.size=w.heap.size+3:=by rw[hW3];simp[World.setCell,u1]
 have h3:TrAt g s p (.slice none 0 0) W3:=by rw[hW3];exact (heap_alloc_old _ _ (by simp[World.setCell];omega)).trans (heap_setCell_same _ _ 2 _ _ _ h1)
 have s3:∀ k,k≠g→k<w.heap.size+2→W3.heap[k]?=W1.heap[k]?:=fun k k1 k2=>by rw[hW3];exact (heap_alloc_old _ _ (by simp[World.setCell];omega)).trans (heap_setCell_other _ _ _ _ k1)
 have rn3:W3.heap[w.heap.size+2]?=some (.cells #[.int .i64 0,.int .i64 0,.int .i64 0,.int .i64 0,.string ⟨#[]⟩,.string ⟨#[]⟩,.string ⟨#[]⟩,.slice none 0 0,.slice none 0 0,.slice none 0 0,.bool false,.string ⟨#[]⟩] 27 (0,0)):=by
  rw[hW3]
  have:=heap_alloc_new (W1.setCell ⟨g,2,none⟩ (.slice none 0 0)) (.cells #[.int .i64 0,.int .i64 0,.int .i64 0,.int .i64 0,.string ⟨#[]⟩,.string ⟨#[]⟩,.string ⟨#[]⟩,.slice none 0 0,.slice none 0 0,.slice none 0 0,.bool false,.string ⟨#[]⟩] 27)
  rwa [show (W1.setCell ⟨g,2,none⟩ (.slice none 0 0)).heap.size=w.heap.size+2 by simp[World.setCell,u1]] at this
 have ra3:=(s3 (w.heap.size+1) (by omega) (by omega)).trans ra
 have rp3:=(s3 w.heap.size (by omega) (by omega)).trans rp
 have k03:Keep (Lx g w.heap.size) w W3:=by
  have b3:Keep (Lx g w.heap.size) w (W1.setCell ⟨g,2,none⟩ (.slice none 0 0)):=(below_lx b1).trans (tr_keep1 _ _ _) (fun _ hk=>hk)
  rw[hW3]
  exact b3.alloc (fun k hk=>by have:=hk.1;simp[World.setCell];omega) _
 have B3:Below w0.heap.size w0 W3:=hB.trans (k03.below (fun k hk=>⟨by have:=hB.size;omega,by omega⟩))
 have qp3:∀ j,W3.cell? ⟨w.heap.size,j,none⟩=(#[.int .i64 (b:Int),.int .i64 n,.int .i64 (d:Int)]:Array Value)[j]?:=fun j=>cell_of_row W3 _ j _ _ _ rp3
 have HW:=Lib.hid hW1
 have HW3:=Lib.hid hW3
 have HV:=Lib.hid (And.intro (by rw[hvn];exact hH:HasV 2 w (.slice va vn vc) L.length (comV L)) hap)
 have HB3:=Lib.hid B3
 have HT3:=Lib.hid h3
 clear hW1 hW3 rp ra h1 h s3 hH hap hvn rp3
 have CL:=trBelow_is g s p _ W3 E h3 hE (Nat.le_of_lt hp)
 have CS:=fun W hW hT hC=>trContent_is K w0 hEv g s hs hPs b n d p (.slice none 0 0) hC W hW ⟨_,_,_,rfl⟩ hT hp
 go_enter Tryz.func55,Tryz.ntmps55
 go_wp2_with fail
 rw[←HW.out]
 refine C1.mono ?_
 rintro e w2 ⟨rfl,rfl⟩
 go_wp2_with fail
 rw[←HW3.out]
 have h3:=HT3.out
 have B3:=HB3.out
 refine CL.mono ?_
 rintro e w2 ⟨rfl,k,rfl⟩
 clear C1
 obtain ⟨w4,hw4⟩:∃ w4,w4=W3.drewN k:=⟨_,rfl⟩
 have T4:TrAt g s p (.slice none 0 0) w4:=by rw[hw4];exact h3.drewN k
 have b4:Below W3.heap.size W3 w4:=by rw[hw4];exact Go.below_drewN (Below.refl _ _) k
 have B4:Below w0.heap.size w0 w4:=by rw[hw4];exact Go.below_drewN B3 k
 have K4:Keep (Lx g w.heap.size) w w4:=by rw[hw4];exact k03.drewN k
 have Z4:w.heap.size+3≤w4.heap.size:=by rw[hw4];exact Nat.le_of_eq z03.symm
 have rn4:=(b4.block (w.heap.size+2) (by omega)).trans rn3
 have ra4:=(b4.block (w.heap.size+1) (by omega)).trans ra3
 have qp4:∀ j,w4.cell? ⟨w.heap.size,j,none⟩=(#[.int .i64 (b:Int),.int .i64 n,.int .i64 (d:Int)]:Array Value)[j]?:=by rw[hw4];exact qp3
 rw[←hw4]
 clear hw4 h3 b4 B3 rn3 ra3 qp3 CL
 unfold ownP at ho
 cases hr:sameRow s E p with
 | true=>
  rw[if_neg (by rw[show sameRow s E p=true from hr];decide)] at ho
  rw[Bool.not_true]
  have hi:=run_byt s p hp _ rfl
  unfold ownC at ho
  by_cases h42:isB s p 42=true
  ·rw[if_pos h42] at ho
   subst ho
   rw[(isB_lt h42).2] at hi
   have cX:=T4.cell
   go_wp2_with fail
   go_quiet (fail)
   go_wp2_with fail
   refine (trRaise_is p 5 _).mono ?_
   rintro e w5 ⟨rfl,rfl⟩
   exact ⟨rfl,rfl,K4.drewN nq⟩
  ·rw[if_neg h42] at ho
   have hb42:(((byt s p:Nat):Int)==42)=false:=by rw[beq_eq_false_iff_ne];intro e;exact h42 (isB_in.2 ⟨hp,by omega⟩)
   obtain ⟨y,hy⟩:∃ y:Nat,byt s p=y:=⟨_,rfl⟩
   rw[hy] at hi hb42
   have cX:=T4.cell
   clear hy
   go_wp2_with fail
   go_quiet (fail)
   obtain ⟨wQ,hwQ⟩:∃ wQ,wQ=w4.drewN nq:=⟨_,rfl⟩
   have TQ:TrAt g s p (.slice none 0 0) wQ:=by rw[hwQ];exact T4.drewN nq
   have bQ:Below w4.heap.size w4 wQ:=by rw[hwQ];exact Go.below_drewN (Below.refl _ _) nq
   have BQ:Below w0.heap.size w0 wQ:=by rw[hwQ];exact Go.below_drewN B4 nq
   have KQ:Keep (Lx g w.heap.size) w wQ:=by rw[hwQ];exact K4.drewN nq
   have ZQ:w.heap.size+3≤wQ.heap.size:=by rw[hwQ];exact Z4
   have rnQ:=(bQ.block (w.heap.size+2) (by omega)).trans rn4
   have raQ:=(bQ.block (w.heap.size+1) (by omega)).trans ra4
   have qpQ:∀ j,wQ.cell? ⟨w.heap.size,j,none⟩=(#[.int .i64 (b:Int),.int .i64 n,.int .i64 (d:Int)]:Array Value)[j]?:=by rw[hwQ];exact qp4
   rw[←hwQ]
   clear hwQ bQ cX qp4
   rcases ho with ⟨q,c,ho,rfl⟩|⟨x,ho,rfl⟩
   ·go_wp2_with fail
    refine (CS wQ BQ TQ _ ho).mono ?_
    rintro e w8 ⟨rfl,k8⟩
    exact ⟨rfl,rfl,KQ.lx k8 KQ.size⟩
   ·go_wp2_with fail
    refine (CS wQ BQ TQ _ ho).mono ?_
    rintro e w8 ⟨cs,v8,R,rfl,hN,M⟩
    obtain ⟨y0,y1,y2,y3,y4,y5,y6,ya,yb,yc,yd,ye,yf,yg,yh,yi,y7,y8,rfl⟩:=hN.cells12
    have k8:=M.keep
    have z8:=k8.size
    have rn8:=(k8.block (w.heap.size+2) ⟨by omega,by omega⟩).trans rnQ
    have ra8:=(k8.block (w.heap.size+1) ⟨by omega,by omega⟩).trans raQ
    have qn8:∀ j,w8.cell? ⟨w.heap.size+2,j,none⟩=(#[.int .i64 0,.int .i64 0,.int .i64 0,.int .i64 0,.string ⟨#[]⟩,.string ⟨#[]⟩,.string ⟨#[]⟩,.slice none 0 0,.slice none 0 0,.slice none 0 0,.bool false,.string ⟨#[]⟩]:Array Value)[j]?:=fun j=>cell_of_row w8 _ j _ _ _ rn8
    have fn8:∀ j,w8.frozen? ⟨w.heap.size+2,j,none⟩=false:=fun j=>frozen_of_row w8 _ j _ _ rn8
    have HRA8:=Lib.hid ra8
    have HRN8:=Lib.hid rn8
    have HM8:=Lib.hid M
    have HN8:=Lib.hid hN
    clear M hN k8 ra8 rn8
    go_upto_region 8 with fail
    obtain ⟨w6,hw6⟩:∃ w6,w6=((((((((((((w8.setCell ⟨w.heap.size+2,0,none⟩ (.int .i64 y0)).setCell ⟨w.heap.size+2,1,none⟩ (.int .i64 y1)).setCell ⟨w.heap.size+2,2,none⟩ (.int .i64 y2)).setCell ⟨w.heap.size+2,3,none⟩ (.int .i64 y3)).setCell ⟨w.heap.size+2,4,none⟩ (.string y4)).setCell ⟨w.heap.size+2,5,none⟩ (.string y5)).setCell ⟨w.heap.size+2,6,none⟩ (.string y6)).setCell ⟨w.heap.size+2,7,none⟩ (.slice ya yb yc)).setCell ⟨w.heap.size+2,8,none⟩ (.slice yd ye yf)).setCell ⟨w.heap.size+2,9,none⟩ (.slice yg yh yi)).setCell ⟨w.heap.size+2,10,none⟩ (.bool y7)).setCell ⟨w.heap.size+2,11,none⟩ (.string y8)):=⟨_,rfl⟩
    have rw6:w6.heap[w.heap.size+2]?=some (.cells #[.int .i64 y0,.int .i64 y1,.int .i64 y2,.int .i64 y3,.string y4,.string y5,.string y6,.slice ya yb yc,.slice yd ye yf,.slice yg yh yi,.bool y7,.string y8] 27 (0,0)):=by rw[hw6];exact row12_set w8 (hg:=HRN8.out) ..
    have bw6:Below (w.heap.size+2) w8 w6:=by rw[hw6];exact row12_below w8 _ _ (Nat.le_refl _) _ _ _ _ _ _ _ _ _ _ _ _
    have zw6:w6.heap.size=w8.heap.size:=by rw[hw6,row12_size]
    have sw6:∀ k,¬ k=w.heap.size+2→w6.heap[k]?=w8.heap[k]?:=fun k hk=>by rw[hw6];exact row12_other w8 _ k hk ..
    rw[←hw6]
    clear hw6
    have ra6:=(sw6 (w.heap.size+1) (by omega)).trans HRA8.out

    have qw6:∀ j,w6.cell? ⟨w.heap.size+2,j,none⟩=(#[.int .i64 y0,.int .i64 y1,.int .i64 y2,.int .i64 y3,.string y4,.string y5,.string y6,.slice ya yb yc,.slice yd ye yf,.slice yg yh yi,.bool y7,.string y8]:Array Value)[j]?:=fun j=>cell_of_row w6 _ j _ _ _ rw6
    have fw6:∀ j,w6.frozen? ⟨w.heap.size+2,j,none⟩=false:=fun j=>frozen_of_row w6 _ j _ _ rw6
    clear qn8 fn8
    go_upto_region 9 with fail
    obtain ⟨w7,hw7⟩:∃ w7,w7=w6.setCell ⟨w.heap.size+2,8,none⟩ (.slice va vn vc):=⟨_,rfl⟩
    have rw7:w7.heap[w.heap.size+2]?=some (.cells #[.int .i64 y0,.int .i64 y1,.int .i64 y2,.int .i64 y3,.string y4,.string y5,.string y6,.slice ya yb yc,.slice va vn vc,.slice yg yh yi,.bool y7,.string y8] 27 (0,0)):=by rw[hw7];exact heap_setCell_same _ _ 8 _ _ _ rw6
    have sw7:∀ k,¬ k=w.heap.size+2→w7.heap[k]?=w6.heap[k]?:=fun k hk=>by rw[hw7];exact heap_setCell_other _ _ _ _ hk
    have zw7:w7.heap.size=w6.heap.size:=by rw[hw7];simp[World.setCell]
    have ow7:w7.os=w6.os∧w7.tape=w6.tape∧w7.output=w6.output:=by rw[hw7];exact ⟨rfl,rfl,rfl⟩
    rw[←hw7]
    clear hw7
    have ra7:=(sw7 (w.heap.size+1) (by omega)).trans ra6
    have qn7:∀ j,w7.cell? ⟨w.heap.size+2,j,none⟩=(#[.int .i64 y0,.int .i64 y1,.int .i64 y2,.int .i64 y3,.string y4,.string y5,.string y6,.slice ya yb yc,.slice va vn vc,.slice yg yh yi,.bool y7,.string y8]:Array Value)[j]?:=fun j=>cell_of_row w7 _ j _ _ _ rw7
    have fn7:∀ j,w7.frozen? ⟨w.heap.size+2,j,none⟩=false:=fun j=>frozen_of_row w7 _ j _ _ rw7
    have qa7:∀ j,w7.cell? ⟨w.heap.size+1,j,none⟩=(#[.int .i64 0,.int .i64 0,.int .i64 0,.int .i64 0,.string ⟨#[]⟩,.string ⟨#[]⟩,.string ⟨#[]⟩,.slice none 0 0,.slice none 0 0,.slice none 0 0,.bool false,.string ⟨#[]⟩]:Array Value)[j]?:=fun j=>cell_of_row w7 _ j _ _ _ ra7
    have fa7:∀ j,w7.frozen? ⟨w.heap.size+1,j,none⟩=false:=fun j=>frozen_of_row w7 _ j _ _ ra7
    have HRA7:=Lib.hid ra7
    clear ra7 rw7 ra6 rw6 qw6 fw6
    go_wp2
    obtain ⟨w12,hw12⟩:∃ w12,w12=((((((((((((w7.setCell ⟨w.heap.size+1,0,none⟩ (.int .i64 y0)).setCell ⟨w.heap.size+1,1,none⟩ (.int .i64 y1)).setCell ⟨w.heap.size+1,2,none⟩ (.int .i64 y2)).setCell ⟨w.heap.size+1,3,none⟩ (.int .i64 y3)).setCell ⟨w.heap.size+1,4,none⟩ (.string y4)).setCell ⟨w.heap.size+1,5,none⟩ (.string y5)).setCell ⟨w.heap.size+1,6,none⟩ (.string y6)).setCell ⟨w.heap.size+1,7,none⟩ (.slice ya yb yc)).setCell ⟨w.heap.size+1,8,none⟩ (.slice va vn vc)).setCell ⟨w.heap.size+1,9,none⟩ (.slice yg yh yi)).setCell ⟨w.heap.size+1,10,none⟩ (.bool y7)).setCell ⟨w.heap.size+1,11,none⟩ (.string y8)):=⟨_,rfl⟩
    have rw12:w12.heap[w.heap.size+1]?=some (.cells #[.int .i64 y0,.int .i64 y1,.int .i64 y2,.int .i64 y3,.string y4,.string y5,.string y6,.slice ya yb yc,.slice va vn vc,.slice yg yh yi,.bool y7,.string y8] 27 (0,0)):=by rw[hw12];exact row12_set w7 (hg:=HRA7.out) ..
    have bw12:Below (w.heap.size+1) w7 w12:=by rw[hw12];exact row12_below w7 _ _ (Nat.le_refl _) _ _ _ _ _ _ _ _ _ _ _ _
    have zw12:w12.heap.size=w7.heap.size:=by rw[hw12,row12_size]
    have sw12:∀ k,¬ k=w.heap.size+1→w12.heap[k]?=w7.heap[k]?:=fun k hk=>by rw[hw12];exact row12_other w7 _ k hk ..
    rw[←hw12]
    clear hw12
    have hcz:∀ j,w12.cell? ⟨w.heap.size+1,j,none⟩=(#[.int .i64 y0,.int .i64 y1,.int .i64 y2,.int .i64 y3,.string y4,.string y5,.string y6,.slice ya yb yc,.slice va vn vc,.slice yg yh yi,.bool y7,.string y8]:Array Value)[j]?:=fun j=>cell_of_row w12 _ j _ _ _ rw12
    refine bodyPost_ret (v:=.agg #[.int .i64 y0,.int .i64 y1,.int .i64 y2,.int .i64 y3,.string y4,.string y5,.string y6,.slice ya yb yc,.slice va vn vc,.slice yg yh yi,.bool y7,.string y8]) (by simp[results,Tryz.results55,go_sem,hcz]) rfl ?_
    exact own_end HM8.out HN8.out KQ ZQ hg HV.out (fun k h1 h2=>(sw12 k h1).trans ((sw7 k h2).trans (sw6 k h2))) (by rw[zw12,zw7,zw6]) ⟨(bw12.os.trans ow7.1).trans bw6.os,(bw12.tape.trans ow7.2.1).trans bw6.tape,(bw12.output.trans ow7.2.2).trans bw6.output⟩

 | false=>
  rw[if_pos (show sameRow s E p=false from hr)] at ho
  obtain ⟨op,hop,ho⟩:=ho
  have CBG:=trBegins_is K g s p _ w4 op T4 hs hPs (K.below _ _ hEv B4) hw hop
  rw[Bool.not_false]
  go_wp2_with fail
  refine CBG.mono ?_
  rintro e w5 ⟨rfl,b5⟩
  clear CBG hop
  have bb:=b5
  have sz5:=b5.size
  have T5:=T4.below b5 T4.lt
  have B5:Below w0.heap.size w0 w5:=B4.trans (b5.mono (by have:=B4.size;omega))
  have K5:Keep (Lx g w.heap.size) w w5:=K4.lxB b5 K4.size
  have Z5:w.heap.size+3≤w5.heap.size:=Nat.le_trans Z4 sz5
  have rn5:=(b5.block (w.heap.size+2) (by omega)).trans rn4
  have ra5:=(b5.block (w.heap.size+1) (by omega)).trans ra4
  have qp5:∀ j,w5.cell? ⟨w.heap.size,j,none⟩=(#[.int .i64 (b:Int),.int .i64 n,.int .i64 (d:Int)]:Array Value)[j]?:=fun j=>(b5.cell (p:=⟨w.heap.size,j,none⟩) (by show w.heap.size<_;omega)).trans (qp4 j)
  clear T4 B4 K4 Z4 rn4 ra4 qp4 b5 bb
  cases op with
  | true=>
   rw[if_pos rfl] at ho
   rcases ho with ⟨q,c,ho,rfl⟩|⟨x,ho,rfl⟩
   ·go_wp2_with fail
    refine (hblk d p _ _ w5 B5 rfl T5 hp hw ho).mono ?_
    rintro e w8 ⟨rfl,k8⟩
    exact ⟨rfl,rfl,K5.lx k8 K5.size⟩
   ·go_wp2_with fail
    refine (hblk d p _ _ w5 B5 rfl T5 hp hw ho).mono ?_
    rintro e w8 ⟨cs,v8,R,rfl,hN,M⟩
    obtain ⟨y0,y1,y2,y3,y4,y5,y6,ya,yb,yc,yd,ye,yf,yg,yh,yi,y7,y8,rfl⟩:=hN.cells12
    have k8:=M.keep
    have z8:=k8.size
    have rn8:=(k8.block (w.heap.size+2) ⟨by omega,by omega⟩).trans rn5
    have ra8:=(k8.block (w.heap.size+1) ⟨by omega,by omega⟩).trans ra5
    have qn8:∀ j,w8.cell? ⟨w.heap.size+2,j,none⟩=(#[.int .i64 0,.int .i64 0,.int .i64 0,.int .i64 0,.string ⟨#[]⟩,.string ⟨#[]⟩,.string ⟨#[]⟩,.slice none 0 0,.slice none 0 0,.slice none 0 0,.bool false,.string ⟨#[]⟩]:Array Value)[j]?:=fun j=>cell_of_row w8 _ j _ _ _ rn8
    have fn8:∀ j,w8.frozen? ⟨w.heap.size+2,j,none⟩=false:=fun j=>frozen_of_row w8 _ j _ _ rn8
    have HRA8:=Lib.hid ra8
    have HRN8:=Lib.hid rn8
    have HM8:=Lib.hid M
    have HN8:=Lib.hid hN
    clear M hN k8 ra8 rn8
    go_upto_region 8 with fail
    obtain ⟨w6,hw6⟩:∃ w6,w6=((((((((((((w8.setCell ⟨w.heap.size+2,0,none⟩ (.int .i64 y0)).setCell ⟨w.heap.size+2,1,none⟩ (.int .i64 y1)).setCell ⟨w.heap.size+2,2,none⟩ (.int .i64 y2)).setCell ⟨w.heap.size+2,3,none⟩ (.int .i64 y3)).setCell ⟨w.heap.size+2,4,none⟩ (.string y4)).setCell ⟨w.heap.size+2,5,none⟩ (.string y5)).setCell ⟨w.heap.size+2,6,none⟩ (.string y6)).setCell ⟨w.heap.size+2,7,none⟩ (.slice ya yb yc)).setCell ⟨w.heap.size+2,8,none⟩ (.slice yd ye yf)).setCell ⟨w.heap.size+2,9,none⟩ (.slice yg yh yi)).setCell ⟨w.heap.size+2,10,none⟩ (.bool y7)).setCell ⟨w.heap.size+2,11,none⟩ (.string y8)):=⟨_,rfl⟩
    have rw6:w6.heap[w.heap.size+2]?=some (.cells #[.int .i64 y0,.int .i64 y1,.int .i64 y2,.int .i64 y3,.string y4,.string y5,.string y6,.slice ya yb yc,.slice yd ye yf,.slice yg yh yi,.bool y7,.string y8] 27 (0,0)):=by rw[hw6];exact row12_set w8 (hg:=HRN8.out) ..
    have bw6:Below (w.heap.size+2) w8 w6:=by rw[hw6];exact row12_below w8 _ _ (Nat.le_refl _) _ _ _ _ _ _ _ _ _ _ _ _
    have zw6:w6.heap.size=w8.heap.size:=by rw[hw6,row12_size]
    have sw6:∀ k,¬ k=w.heap.size+2→w6.heap[k]?=w8.heap[k]?:=fun k hk=>by rw[hw6];exact row12_other w8 _ k hk ..
    rw[←hw6]
    clear hw6
    have ra6:=(sw6 (w.heap.size+1) (by omega)).trans HRA8.out

    have qw6:∀ j,w6.cell? ⟨w.heap.size+2,j,none⟩=(#[.int .i64 y0,.int .i64 y1,.int .i64 y2,.int .i64 y3,.string y4,.string y5,.string y6,.slice ya yb yc,.slice yd ye yf,.slice yg yh yi,.bool y7,.string y8]:Array Value)[j]?:=fun j=>cell_of_row w6 _ j _ _ _ rw6
    have fw6:∀ j,w6.frozen? ⟨w.heap.size+2,j,none⟩=false:=fun j=>frozen_of_row w6 _ j _ _ rw6
    clear qn8 fn8
    go_upto_region 9 with fail
    obtain ⟨w7,hw7⟩:∃ w7,w7=w6.setCell ⟨w.heap.size+2,8,none⟩ (.slice va vn vc):=⟨_,rfl⟩
    have rw7:w7.heap[w.heap.size+2]?=some (.cells #[.int .i64 y0,.int .i64 y1,.int .i64 y2,.int .i64 y3,.string y4,.string y5,.string y6,.slice ya yb yc,.slice va vn vc,.slice yg yh yi,.bool y7,.string y8] 27 (0,0)):=by rw[hw7];exact heap_setCell_same _ _ 8 _ _ _ rw6
    have sw7:∀ k,¬ k=w.heap.size+2→w7.heap[k]?=w6.heap[k]?:=fun k hk=>by rw[hw7];exact heap_setCell_other _ _ _ _ hk
    have zw7:w7.heap.size=w6.heap.size:=by rw[hw7];simp[World.setCell]
    have ow7:w7.os=w6.os∧w7.tape=w6.tape∧w7.output=w6.output:=by rw[hw7];exact ⟨rfl,rfl,rfl⟩
    rw[←hw7]
    clear hw7
    have ra7:=(sw7 (w.heap.size+1) (by omega)).trans ra6
    have qn7:∀ j,w7.cell? ⟨w.heap.size+2,j,none⟩=(#[.int .i64 y0,.int .i64 y1,.int .i64 y2,.int .i64 y3,.string y4,.string y5,.string y6,.slice ya yb yc,.slice va vn vc,.slice yg yh yi,.bool y7,.string y8]:Array Value)[j]?:=fun j=>cell_of_row w7 _ j _ _ _ rw7
    have fn7:∀ j,w7.frozen? ⟨w.heap.size+2,j,none⟩=false:=fun j=>frozen_of_row w7 _ j _ _ rw7
    have qa7:∀ j,w7.cell? ⟨w.heap.size+1,j,none⟩=(#[.int .i64 0,.int .i64 0,.int .i64 0,.int .i64 0,.string ⟨#[]⟩,.string ⟨#[]⟩,.string ⟨#[]⟩,.slice none 0 0,.slice none 0 0,.slice none 0 0,.bool false,.string ⟨#[]⟩]:Array Value)[j]?:=fun j=>cell_of_row w7 _ j _ _ _ ra7
    have fa7:∀ j,w7.frozen? ⟨w.heap.size+1,j,none⟩=false:=fun j=>frozen_of_row w7 _ j _ _ ra7
    have HRA7:=Lib.hid ra7
    clear ra7 rw7 ra6 rw6 qw6 fw6
    go_wp2
    obtain ⟨w12,hw12⟩:∃ w12,w12=((((((((((((w7.setCell ⟨w.heap.size+1,0,none⟩ (.int .i64 y0)).setCell ⟨w.heap.size+1,1,none⟩ (.int .i64 y1)).setCell ⟨w.heap.size+1,2,none⟩ (.int .i64 y2)).setCell ⟨w.heap.size+1,3,none⟩ (.int .i64 y3)).setCell ⟨w.heap.size+1,4,none⟩ (.string y4)).setCell ⟨w.heap.size+1,5,none⟩ (.string y5)).setCell ⟨w.heap.size+1,6,none⟩ (.string y6)).setCell ⟨w.heap.size+1,7,none⟩ (.slice ya yb yc)).setCell ⟨w.heap.size+1,8,none⟩ (.slice va vn vc)).setCell ⟨w.heap.size+1,9,none⟩ (.slice yg yh yi)).setCell ⟨w.heap.size+1,10,none⟩ (.bool y7)).setCell ⟨w.heap.size+1,11,none⟩ (.string y8)):=⟨_,rfl⟩
    have rw12:w12.heap[w.heap.size+1]?=some (.cells #[.int .i64 y0,.int .i64 y1,.int .i64 y2,.int .i64 y3,.string y4,.string y5,.string y6,.slice ya yb yc,.slice va vn vc,.slice yg yh yi,.bool y7,.string y8] 27 (0,0)):=by rw[hw12];exact row12_set w7 (hg:=HRA7.out) ..
    have bw12:Below (w.heap.size+1) w7 w12:=by rw[hw12];exact row12_below w7 _ _ (Nat.le_refl _) _ _ _ _ _ _ _ _ _ _ _ _
    have zw12:w12.heap.size=w7.heap.size:=by rw[hw12,row12_size]
    have sw12:∀ k,¬ k=w.heap.size+1→w12.heap[k]?=w7.heap[k]?:=fun k hk=>by rw[hw12];exact row12_other w7 _ k hk ..
    rw[←hw12]
    clear hw12
    have hcz:∀ j,w12.cell? ⟨w.heap.size+1,j,none⟩=(#[.int .i64 y0,.int .i64 y1,.int .i64 y2,.int .i64 y3,.string y4,.string y5,.string y6,.slice ya yb yc,.slice va vn vc,.slice yg yh yi,.bool y7,.string y8]:Array Value)[j]?:=fun j=>cell_of_row w12 _ j _ _ _ rw12
    refine bodyPost_ret (v:=.agg #[.int .i64 y0,.int .i64 y1,.int .i64 y2,.int .i64 y3,.string y4,.string y5,.string y6,.slice ya yb yc,.slice va vn vc,.slice yg yh yi,.bool y7,.string y8]) (by simp[results,Tryz.results55,go_sem,hcz]) rfl ?_
    exact own_end HM8.out HN8.out K5 Z5 hg HV.out (fun k h1 h2=>(sw12 k h1).trans ((sw7 k h2).trans (sw6 k h2))) (by rw[zw12,zw7,zw6]) ⟨(bw12.os.trans ow7.1).trans bw6.os,(bw12.tape.trans ow7.2.1).trans bw6.tape,(bw12.output.trans ow7.2.2).trans bw6.output⟩
  | false=>
   rw[if_neg (by decide)] at ho
   have hi:=run_byt s p hp _ rfl
   unfold ownC at ho
   by_cases h42:isB s p 42=true
   ·rw[if_pos h42] at ho
    subst ho
    rw[(isB_lt h42).2] at hi
    have cX:=T5.cell
    go_wp2_with fail
    go_quiet (fail)
    go_wp2_with fail
    refine (trRaise_is p 5 _).mono ?_
    rintro e w5 ⟨rfl,rfl⟩
    exact ⟨rfl,rfl,K5.drewN nq⟩
   ·rw[if_neg h42] at ho
    have hb42:(((byt s p:Nat):Int)==42)=false:=by rw[beq_eq_false_iff_ne];intro e;exact h42 (isB_in.2 ⟨hp,by omega⟩)
    obtain ⟨y,hy⟩:∃ y:Nat,byt s p=y:=⟨_,rfl⟩
    rw[hy] at hi hb42
    have cX:=T5.cell
    clear hy
    go_wp2_with fail
    go_quiet (fail)
    obtain ⟨wQ,hwQ⟩:∃ wQ,wQ=w5.drewN nq:=⟨_,rfl⟩
    have TQ:TrAt g s p (.slice none 0 0) wQ:=by rw[hwQ];exact T5.drewN nq
    have bQ:Below w5.heap.size w5 wQ:=by rw[hwQ];exact Go.below_drewN (Below.refl _ _) nq
    have BQ:Below w0.heap.size w0 wQ:=by rw[hwQ];exact Go.below_drewN B5 nq
    have KQ:Keep (Lx g w.heap.size) w wQ:=by rw[hwQ];exact K5.drewN nq
    have ZQ:w.heap.size+3≤wQ.heap.size:=by rw[hwQ];exact Z5
    have rnQ:=(bQ.block (w.heap.size+2) (by omega)).trans rn5
    have raQ:=(bQ.block (w.heap.size+1) (by omega)).trans ra5
    have qpQ:∀ j,wQ.cell? ⟨w.heap.size,j,none⟩=(#[.int .i64 (b:Int),.int .i64 n,.int .i64 (d:Int)]:Array Value)[j]?:=by rw[hwQ];exact qp5
    rw[←hwQ]
    clear hwQ bQ cX qp5
    rcases ho with ⟨q,c,ho,rfl⟩|⟨x,ho,rfl⟩
    ·go_wp2_with fail
     refine (CS wQ BQ TQ _ ho).mono ?_
     rintro e w8 ⟨rfl,k8⟩
     exact ⟨rfl,rfl,KQ.lx k8 KQ.size⟩
    ·go_wp2_with fail
     refine (CS wQ BQ TQ _ ho).mono ?_
     rintro e w8 ⟨cs,v8,R,rfl,hN,M⟩
     obtain ⟨y0,y1,y2,y3,y4,y5,y6,ya,yb,yc,yd,ye,yf,yg,yh,yi,y7,y8,rfl⟩:=hN.cells12
     have k8:=M.keep
     have z8:=k8.size
     have rn8:=(k8.block (w.heap.size+2) ⟨by omega,by omega⟩).trans rnQ
     have ra8:=(k8.block (w.heap.size+1) ⟨by omega,by omega⟩).trans raQ
     have qn8:∀ j,w8.cell? ⟨w.heap.size+2,j,none⟩=(#[.int .i64 0,.int .i64 0,.int .i64 0,.int .i64 0,.string ⟨#[]⟩,.string ⟨#[]⟩,.string ⟨#[]⟩,.slice none 0 0,.slice none 0 0,.slice none 0 0,.bool false,.string ⟨#[]⟩]:Array Value)[j]?:=fun j=>cell_of_row w8 _ j _ _ _ rn8
     have fn8:∀ j,w8.frozen? ⟨w.heap.size+2,j,none⟩=false:=fun j=>frozen_of_row w8 _ j _ _ rn8
     have HRA8:=Lib.hid ra8
     have HRN8:=Lib.hid rn8
     have HM8:=Lib.hid M
     have HN8:=Lib.hid hN
     clear M hN k8 ra8 rn8
     go_upto_region 8 with fail
     obtain ⟨w6,hw6⟩:∃ w6,w6=((((((((((((w8.setCell ⟨w.heap.size+2,0,none⟩ (.int .i64 y0)).setCell ⟨w.heap.size+2,1,none⟩ (.int .i64 y1)).setCell ⟨w.heap.size+2,2,none⟩ (.int .i64 y2)).setCell ⟨w.heap.size+2,3,none⟩ (.int .i64 y3)).setCell ⟨w.heap.size+2,4,none⟩ (.string y4)).setCell ⟨w.heap.size+2,5,none⟩ (.string y5)).setCell ⟨w.heap.size+2,6,none⟩ (.string y6)).setCell ⟨w.heap.size+2,7,none⟩ (.slice ya yb yc)).setCell ⟨w.heap.size+2,8,none⟩ (.slice yd ye yf)).setCell ⟨w.heap.size+2,9,none⟩ (.slice yg yh yi)).setCell ⟨w.heap.size+2,10,none⟩ (.bool y7)).setCell ⟨w.heap.size+2,11,none⟩ (.string y8)):=⟨_,rfl⟩
     have rw6:w6.heap[w.heap.size+2]?=some (.cells #[.int .i64 y0,.int .i64 y1,.int .i64 y2,.int .i64 y3,.string y4,.string y5,.string y6,.slice ya yb yc,.slice yd ye yf,.slice yg yh yi,.bool y7,.string y8] 27 (0,0)):=by rw[hw6];exact row12_set w8 (hg:=HRN8.out) ..
     have bw6:Below (w.heap.size+2) w8 w6:=by rw[hw6];exact row12_below w8 _ _ (Nat.le_refl _) _ _ _ _ _ _ _ _ _ _ _ _
     have zw6:w6.heap.size=w8.heap.size:=by rw[hw6,row12_size]
     have sw6:∀ k,¬ k=w.heap.size+2→w6.heap[k]?=w8.heap[k]?:=fun k hk=>by rw[hw6];exact row12_other w8 _ k hk ..
     rw[←hw6]
     clear hw6
     have ra6:=(sw6 (w.heap.size+1) (by omega)).trans HRA8.out

     have qw6:∀ j,w6.cell? ⟨w.heap.size+2,j,none⟩=(#[.int .i64 y0,.int .i64 y1,.int .i64 y2,.int .i64 y3,.string y4,.string y5,.string y6,.slice ya yb yc,.slice yd ye yf,.slice yg yh yi,.bool y7,.string y8]:Array Value)[j]?:=fun j=>cell_of_row w6 _ j _ _ _ rw6
     have fw6:∀ j,w6.frozen? ⟨w.heap.size+2,j,none⟩=false:=fun j=>frozen_of_row w6 _ j _ _ rw6
     clear qn8 fn8
     go_upto_region 9 with fail
     obtain ⟨w7,hw7⟩:∃ w7,w7=w6.setCell ⟨w.heap.size+2,8,none⟩ (.slice va vn vc):=⟨_,rfl⟩
     have rw7:w7.heap[w.heap.size+2]?=some (.cells #[.int .i64 y0,.int .i64 y1,.int .i64 y2,.int .i64 y3,.string y4,.string y5,.string y6,.slice ya yb yc,.slice va vn vc,.slice yg yh yi,.bool y7,.string y8] 27 (0,0)):=by rw[hw7];exact heap_setCell_same _ _ 8 _ _ _ rw6
     have sw7:∀ k,¬ k=w.heap.size+2→w7.heap[k]?=w6.heap[k]?:=fun k hk=>by rw[hw7];exact heap_setCell_other _ _ _ _ hk
     have zw7:w7.heap.size=w6.heap.size:=by rw[hw7];simp[World.setCell]
     have ow7:w7.os=w6.os∧w7.tape=w6.tape∧w7.output=w6.output:=by rw[hw7];exact ⟨rfl,rfl,rfl⟩
     rw[←hw7]
     clear hw7
     have ra7:=(sw7 (w.heap.size+1) (by omega)).trans ra6
     have qn7:∀ j,w7.cell? ⟨w.heap.size+2,j,none⟩=(#[.int .i64 y0,.int .i64 y1,.int .i64 y2,.int .i64 y3,.string y4,.string y5,.string y6,.slice ya yb yc,.slice va vn vc,.slice yg yh yi,.bool y7,.string y8]:Array Value)[j]?:=fun j=>cell_of_row w7 _ j _ _ _ rw7
     have fn7:∀ j,w7.frozen? ⟨w.heap.size+2,j,none⟩=false:=fun j=>frozen_of_row w7 _ j _ _ rw7
     have qa7:∀ j,w7.cell? ⟨w.heap.size+1,j,none⟩=(#[.int .i64 0,.int .i64 0,.int .i64 0,.int .i64 0,.string ⟨#[]⟩,.string ⟨#[]⟩,.string ⟨#[]⟩,.slice none 0 0,.slice none 0 0,.slice none 0 0,.bool false,.string ⟨#[]⟩]:Array Value)[j]?:=fun j=>cell_of_row w7 _ j _ _ _ ra7
     have fa7:∀ j,w7.frozen? ⟨w.heap.size+1,j,none⟩=false:=fun j=>frozen_of_row w7 _ j _ _ ra7
     have HRA7:=Lib.hid ra7
     clear ra7 rw7 ra6 rw6 qw6 fw6
     go_wp2
     obtain ⟨w12,hw12⟩:∃ w12,w12=((((((((((((w7.setCell ⟨w.heap.size+1,0,none⟩ (.int .i64 y0)).setCell ⟨w.heap.size+1,1,none⟩ (.int .i64 y1)).setCell ⟨w.heap.size+1,2,none⟩ (.int .i64 y2)).setCell ⟨w.heap.size+1,3,none⟩ (.int .i64 y3)).setCell ⟨w.heap.size+1,4,none⟩ (.string y4)).setCell ⟨w.heap.size+1,5,none⟩ (.string y5)).setCell ⟨w.heap.size+1,6,none⟩ (.string y6)).setCell ⟨w.heap.size+1,7,none⟩ (.slice ya yb yc)).setCell ⟨w.heap.size+1,8,none⟩ (.slice va vn vc)).setCell ⟨w.heap.size+1,9,none⟩ (.slice yg yh yi)).setCell ⟨w.heap.size+1,10,none⟩ (.bool y7)).setCell ⟨w.heap.size+1,11,none⟩ (.string y8)):=⟨_,rfl⟩
     have rw12:w12.heap[w.heap.size+1]?=some (.cells #[.int .i64 y0,.int .i64 y1,.int .i64 y2,.int .i64 y3,.string y4,.string y5,.string y6,.slice ya yb yc,.slice va vn vc,.slice yg yh yi,.bool y7,.string y8] 27 (0,0)):=by rw[hw12];exact row12_set w7 (hg:=HRA7.out) ..
     have bw12:Below (w.heap.size+1) w7 w12:=by rw[hw12];exact row12_below w7 _ _ (Nat.le_refl _) _ _ _ _ _ _ _ _ _ _ _ _
     have zw12:w12.heap.size=w7.heap.size:=by rw[hw12,row12_size]
     have sw12:∀ k,¬ k=w.heap.size+1→w12.heap[k]?=w7.heap[k]?:=fun k hk=>by rw[hw12];exact row12_other w7 _ k hk ..
     rw[←hw12]
     clear hw12
     have hcz:∀ j,w12.cell? ⟨w.heap.size+1,j,none⟩=(#[.int .i64 y0,.int .i64 y1,.int .i64 y2,.int .i64 y3,.string y4,.string y5,.string y6,.slice ya yb yc,.slice va vn vc,.slice yg yh yi,.bool y7,.string y8]:Array Value)[j]?:=fun j=>cell_of_row w12 _ j _ _ _ rw12
     refine bodyPost_ret (v:=.agg #[.int .i64 y0,.int .i64 y1,.int .i64 y2,.int .i64 y3,.string y4,.string y5,.string y6,.slice ya yb yc,.slice va vn vc,.slice yg yh yi,.bool y7,.string y8]) (by simp[results,Tryz.results55,go_sem,hcz]) rfl ?_
     exact own_end HM8.out HN8.out KQ ZQ hg HV.out (fun k h1 h2=>(sw12 k h1).trans ((sw7 k h2).trans (sw6 k h2))) (by rw[zw12,zw7,zw6]) ⟨(bw12.os.trans ow7.1).trans bw6.os,(bw12.tape.trans ow7.2.1).trans bw6.tape,(bw12.output.trans ow7.2.2).trans bw6.output⟩
end Go.Proofs.YthcmkpiajkbpnaaGreatDoor
