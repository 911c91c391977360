/- Parts of the proof, put together from smaller texts (blanks that Lean does not want are struck). Conditions: those that each theorem writes out. -/
import Derived.Test.YthcmkpiajkbpnaaGreatDoorZ21
namespace Go.Proofs.YthcmkpiajkbpnaaGreatDoor
open Go.RowKit
structure CntAt (W1 WA:World) (nb:Nat) (R:Nat→Prop) (cs:List Value) (lo:Rd (NT × Nat)) (E C:Int):Prop where
 row:WA.heap[nb]?=some (.cells cs.toArray 27 (0,0))
 below:Below W1.heap.size W1 WA
 ge:W1.heap.size≤nb
 lt:nb<WA.heap.size
 new:∀ k,R k→W1.heap.size≤k∧k<WA.heap.size∧k≠nb
 res:match lo with
  | .ok x=>C=0∧E=(x.2:Int)∧IsN R WA x.1 cs
  | .bad q c=>C=c∧c≠0∧E=(q:Int)
theorem IsN.trail12 {R:Nat→Prop} {w:World} {x:NT} {c0 c1 c2 c3 c4 c5 c6 c7 c8 c9 c10 c11:Value} {T:List UInt8} (h:IsN R w x [c0,c1,c2,c3,c4,c5,c6,c7,c8,c9,c10,c11]):IsN R w (x.withTrail T) [c0,c1,c2,c3,c4,c5,c6,c7,c8,c9,.bool true,.string ⟨T.toArray⟩]:=by
 obtain ⟨kv,lv,fv,e,h1,h2,h3⟩:=h.open
 unfold headC at e
 simp only[List.cons.injEq,and_true] at e
 obtain ⟨rfl,rfl,rfl,rfl,rfl,rfl,rfl,rfl,rfl,rfl,_,_⟩:=e
 exact IsN.shut h1 h2 h3
set_option maxRecDepth 100000 in
set_option maxHeartbeats 6400000 in
theorem trContent_is {Ev:World→Prop} {P:ByteArray→Prop} (K:CntC Ev P) (w0:World) (hEv:Ev w0) (g:Nat) (s:ByteArray) (hs:s.size≤10000) (hPs:P s) (b:Nat) (n:Int) (d p:Nat) (v:Value) (o:Rd Tre) (w:World) (hB:Below w0.heap.size w0 w) (hv:∃ a n c,v=.slice a n c) (h:TrAt g s p v w) (hp:p<s.size) (ho:cntP s n d p o) :
  Calls Tryz.prog 54 #[.pointer (some ⟨g,0,none⟩),.agg #[.int .i64 (b:Int),.int .i64 n,.int .i64 (d:Int)]] w fun e w'=>TrPost g w o (NodG g s w) e w':=by
 have hg:=h.lt
 obtain ⟨W1,hW1⟩:∃ W1,W1=(w.alloc (.cells #[.int .i64 (b:Int),.int .i64 n,.int .i64 (d:Int)] 55)).alloc (.cells #[.int .i64 0,.int .i64 0,.int .i64 0,.int .i64 0,.string ⟨#[]⟩,.string ⟨#[]⟩,.string ⟨#[]⟩,.slice none 0 0,.slice none 0 0,.slice none 0 0,.bool false,.string ⟨#[]⟩] 27):=⟨_,rfl⟩
 have u1:W1.heap.size=w.heap.size+2:=by rw[hW1];simp
 have b1:Below w.heap.size w W1:=by rw[hW1];exact ((Below.refl _ _).alloc (Nat.le_refl _) _).alloc (by simp) _
 have rp:W1.heap[w.heap.size]?=some (.cells #[.int .i64 (b:Int),.int .i64 n,.int .i64 (d:Int)] 55 (0,0)):=by rw[hW1];exact (heap_alloc_old _ _ (by simp)).trans (heap_alloc_new w _)
 have ra:W1.heap[w.heap.size+1]?=some (.cells #[.int .i64 0,.int .i64 0,.int .i64 0,.int .i64 0,.string ⟨#[]⟩,.string ⟨#[]⟩,.string ⟨#[]⟩,.slice none 0 0,.slice none 0 0,.slice none 0 0,.bool false,.string ⟨#[]⟩] 27 (0,0)):=by
  rw[hW1]
  have:=heap_alloc_new (w.alloc (.cells #[.int .i64 (b:Int),.int .i64 n,.int .i64 (d:Int)] 55)) (.cells #[.int .i64 0,.int .i64 0,.int .i64 0,.int .i64 0,.string ⟨#[]⟩,.string ⟨#[]⟩,.string ⟨#[]⟩,.slice none 0 0,.slice none 0 0,.slice none 0 0,.bool false,.string ⟨#[]⟩] 27)
  simpa using this
 have h1:=h.below b1 hg
 have hE1:Ev W1:=K.below _ _ (K.below _ _ hEv hB) b1
 obtain ⟨lo,hlo,hrest⟩:∃ lo,leafR s n d false p lo∧(match lo with | .bad q c=>o=.bad q c | .ok x=>andR (passR s x.2) (fun b o=>o=.ok (trailT x.1 b.1 b.2.1 b.2.2)) o):=by
  rcases ho with ⟨q,c,h1,rfl⟩|⟨x,h1,h2⟩
  ·exact ⟨_,h1,rfl⟩
  ·exact ⟨_,h1,h2⟩
 have CC:=fun W hW=>K.cnt s p n d lo W hs hPs hp hW hlo
 have HW:=Lib.hid hW1
 have HE:=Lib.hid hE1
 have HT:=Lib.hid h1
 have HL:=Lib.hid hlo
 have qp1:∀ j,W1.cell? ⟨w.heap.size,j,none⟩=(#[.int .i64 (b:Int),.int .i64 n,.int .i64 (d:Int)]:Array Value)[j]?:=fun j=>cell_of_row W1 _ j _ _ _ rp
 have c1:=h1.cell
 clear hW1 hE1 ho
 go_enter Tryz.func54,Tryz.ntmps54
 go_wp2_with fail
 rw[←HW.out]
 have hS0:(W1.drew.cell? ⟨g,0,none⟩=some (.string s)∧W1.drew.cell? ⟨g,1,none⟩=some (.int .i64 (p:Int))∧W1.drew.cell? ⟨w.heap.size,1,none⟩=some (.int .i64 n)∧W1.drew.cell? ⟨w.heap.size,2,none⟩=some (.int .i64 (d:Int)))∧Below W1.heap.size W1 W1.drew:=⟨⟨c1 0,c1 1,qp1 1,qp1 2⟩,(Below.refl _ _).drew⟩
 have KB:∀ W W':World,Below W.heap.size W W'→((W.cell? ⟨g,0,none⟩=some (.string s)∧W.cell? ⟨g,1,none⟩=some (.int .i64 (p:Int))∧W.cell? ⟨w.heap.size,1,none⟩=some (.int .i64 n)∧W.cell? ⟨w.heap.size,2,none⟩=some (.int .i64 (d:Int)))∧Below W1.heap.size W1 W)→((W'.cell? ⟨g,0,none⟩=some (.string s)∧W'.cell? ⟨g,1,none⟩=some (.int .i64 (p:Int))∧W'.cell? ⟨w.heap.size,1,none⟩=some (.int .i64 n)∧W'.cell? ⟨w.heap.size,2,none⟩=some (.int .i64 (d:Int)))∧Below W1.heap.size W1 W'):=fun W W' hb hS=>by
  have hb2:=hS.2.trans (hb.mono hS.2.size)
  have hl:=h1.lt
  exact ⟨⟨(hb2.cell (p:=⟨g,0,none⟩) hl).trans (c1 0),(hb2.cell (p:=⟨g,1,none⟩) hl).trans (c1 1),(hb2.cell (p:=⟨w.heap.size,1,none⟩) (by show w.heap.size<_;omega)).trans (qp1 1),(hb2.cell (p:=⟨w.heap.size,2,none⟩) (by show w.heap.size<_;omega)).trans (qp1 2)⟩,hb2⟩
 have KA:∀ (W:World) ob,((W.cell? ⟨g,0,none⟩=some (.string s)∧W.cell? ⟨g,1,none⟩=some (.int .i64 (p:Int))∧W.cell? ⟨w.heap.size,1,none⟩=some (.int .i64 n)∧W.cell? ⟨w.heap.size,2,none⟩=some (.int .i64 (d:Int)))∧Below W1.heap.size W1 W)→(((W.alloc ob).cell? ⟨g,0,none⟩=some (.string s)∧(W.alloc ob).cell? ⟨g,1,none⟩=some (.int .i64 (p:Int))∧(W.alloc ob).cell? ⟨w.heap.size,1,none⟩=some (.int .i64 n)∧(W.alloc ob).cell? ⟨w.heap.size,2,none⟩=some (.int .i64 (d:Int)))∧Below W1.heap.size W1 (W.alloc ob)):=fun W ob hS=>KB W _ ((Below.refl _ _).alloc (Nat.le_refl _) ob) hS
 have KD:∀ (W:World) ob,((W.cell? ⟨g,0,none⟩=some (.string s)∧W.cell? ⟨g,1,none⟩=some (.int .i64 (p:Int))∧W.cell? ⟨w.heap.size,1,none⟩=some (.int .i64 n)∧W.cell? ⟨w.heap.size,2,none⟩=some (.int .i64 (d:Int)))∧Below W1.heap.size W1 W)→(((W.alloc ob).drew.cell? ⟨g,0,none⟩=some (.string s)∧(W.alloc ob).drew.cell? ⟨g,1,none⟩=some (.int .i64 (p:Int))∧(W.alloc ob).drew.cell? ⟨w.heap.size,1,none⟩=some (.int .i64 n)∧(W.alloc ob).drew.cell? ⟨w.heap.size,2,none⟩=some (.int .i64 (d:Int)))∧Below W1.heap.size W1 (W.alloc ob).drew):=fun W ob hS=>KB W _ ((Below.refl _ _).alloc (Nat.le_refl _) ob).drew hS
 have KS:∀ (W:World) i u,((W.cell? ⟨g,0,none⟩=some (.string s)∧W.cell? ⟨g,1,none⟩=some (.int .i64 (p:Int))∧W.cell? ⟨w.heap.size,1,none⟩=some (.int .i64 n)∧W.cell? ⟨w.heap.size,2,none⟩=some (.int .i64 (d:Int)))∧Below W1.heap.size W1 W)→(((W.setCell ⟨w.heap.size+2,i,none⟩ u).cell? ⟨g,0,none⟩=some (.string s)∧(W.setCell ⟨w.heap.size+2,i,none⟩ u).cell? ⟨g,1,none⟩=some (.int .i64 (p:Int))∧(W.setCell ⟨w.heap.size+2,i,none⟩ u).cell? ⟨w.heap.size,1,none⟩=some (.int .i64 n)∧(W.setCell ⟨w.heap.size+2,i,none⟩ u).cell? ⟨w.heap.size,2,none⟩=some (.int .i64 (d:Int)))∧Below W1.heap.size W1 (W.setCell ⟨w.heap.size+2,i,none⟩ u)):=fun W i u hS=>by
  have hb2:=hS.2.setCell (p:=⟨w.heap.size+2,i,none⟩) (by show W1.heap.size≤w.heap.size+2;omega) u
  have hl:=h1.lt
  exact ⟨⟨(hb2.cell (p:=⟨g,0,none⟩) hl).trans (c1 0),(hb2.cell (p:=⟨g,1,none⟩) hl).trans (c1 1),(hb2.cell (p:=⟨w.heap.size,1,none⟩) (by show w.heap.size<_;omega)).trans (qp1 1),(hb2.cell (p:=⟨w.heap.size,2,none⟩) (by show w.heap.size<_;omega)).trans (qp1 2)⟩,hb2⟩
 have hS1:(W1.cell? ⟨g,0,none⟩=some (.string s)∧W1.cell? ⟨g,1,none⟩=some (.int .i64 (p:Int))∧W1.cell? ⟨w.heap.size,1,none⟩=some (.int .i64 n)∧W1.cell? ⟨w.heap.size,2,none⟩=some (.int .i64 (d:Int)))∧Below W1.heap.size W1 W1:=⟨⟨c1 0,c1 1,qp1 1,qp1 2⟩,Below.refl _ _⟩
 clear hS0
 have hS0:(W1.drew.cell? ⟨g,0,none⟩=some (.string s)∧W1.drew.cell? ⟨g,1,none⟩=some (.int .i64 (p:Int))∧W1.drew.cell? ⟨w.heap.size,1,none⟩=some (.int .i64 n)∧W1.drew.cell? ⟨w.heap.size,2,none⟩=some (.int .i64 (d:Int)))∧Below W1.heap.size W1 W1.drew:=⟨⟨c1 0,c1 1,qp1 1,qp1 2⟩,(Below.refl _ _).drew⟩
 have CS:∀ W:World,((W.cell? ⟨g,0,none⟩=some (.string s)∧W.cell? ⟨g,1,none⟩=some (.int .i64 (p:Int))∧W.cell? ⟨w.heap.size,1,none⟩=some (.int .i64 n)∧W.cell? ⟨w.heap.size,2,none⟩=some (.int .i64 (d:Int)))∧Below W1.heap.size W1 W)→Calls Tryz.prog 38 #[.string s,.int .i64 (p:Int),.int .i64 n,.int .i64 (d:Int)] W fun e w'=>CntPost W lo e w'∧Below W.heap.size W w'∧((w'.cell? ⟨g,0,none⟩=some (.string s)∧w'.cell? ⟨g,1,none⟩=some (.int .i64 (p:Int))∧w'.cell? ⟨w.heap.size,1,none⟩=some (.int .i64 n)∧w'.cell? ⟨w.heap.size,2,none⟩=some (.int .i64 (d:Int)))∧Below W1.heap.size W1 w'):=fun W hS=>(CC W (K.below _ _ HE.out hS.2)).mono fun e w' hc=>by
  have hb:Below W.heap.size W w':=by obtain ⟨_,_,_,_,_,_,_,hb,_⟩:=hc;exact hb
  exact ⟨hc,hb,KB W w' hb hS⟩
 clear c1 qp1 CC
 go_region_held3 (fun w'=>(w'.cell? ⟨g,0,none⟩=some (.string s)∧w'.cell? ⟨g,1,none⟩=some (.int .i64 (p:Int))∧w'.cell? ⟨w.heap.size,1,none⟩=some (.int .i64 n)∧w'.cell? ⟨w.heap.size,2,none⟩=some (.int .i64 (d:Int)))∧Below W1.heap.size W1 w') (first|(with_reducible assumption)|(with_reducible exact hS0)|(with_reducible exact KA _ _ hS0)|(with_reducible exact KD _ _ hS1)|(with_reducible refine KA _ _ ?_;with_reducible assumption)|((repeat (with_reducible refine KS _ _ _ ?_));first|(with_reducible assumption)|(with_reducible refine KA _ _ ?_;with_reducible assumption)))
  (first|(go_at_call 38;refine (CS _ (by first|(with_reducible assumption)|(with_reducible exact hS0)|(with_reducible exact KA _ _ hS0)|(with_reducible exact KD _ _ hS1))).mono ?_;rintro e w9 ⟨⟨cs,R,E,C,rfl,h12,hR,-,hm⟩,b9,hS9⟩;obtain ⟨y0,y1,y2,y3,y4,y5,y6,ya,yb,yc,yd,ye,yf,yg,yh,yi,y7,y8,rfl⟩:=h12;have qy:∀ j,(w9.alloc (.cells #[.int .i64 0,.int .i64 0,.int .i64 0,.int .i64 0,.string ⟨#[]⟩,.string ⟨#[]⟩,.string ⟨#[]⟩,.slice none 0 0,.slice none 0 0,.slice none 0 0,.bool false,.string ⟨#[]⟩] 27)).cell? ⟨w9.heap.size,j,none⟩=(#[.int .i64 0,.int .i64 0,.int .i64 0,.int .i64 0,.string ⟨#[]⟩,.string ⟨#[]⟩,.string ⟨#[]⟩,.slice none 0 0,.slice none 0 0,.slice none 0 0,.bool false,.string ⟨#[]⟩]:Array Value)[j]?:=fun j=>cell_of_row _ _ j _ _ _ (heap_alloc_new w9 _);have fy:∀ j,(w9.alloc (.cells #[.int .i64 0,.int .i64 0,.int .i64 0,.int .i64 0,.string ⟨#[]⟩,.string ⟨#[]⟩,.string ⟨#[]⟩,.slice none 0 0,.slice none 0 0,.slice none 0 0,.bool false,.string ⟨#[]⟩] 27)).frozen? ⟨w9.heap.size,j,none⟩=false:=fun j=>frozen_of_row _ _ j _ _ (heap_alloc_new w9 _);(try (have rz:w9.heap[w.heap.size+2]?=some (.cells #[.int .i64 0,.int .i64 0,.int .i64 0,.int .i64 0,.string ⟨#[]⟩,.string ⟨#[]⟩,.string ⟨#[]⟩,.slice none 0 0,.slice none 0 0,.slice none 0 0,.bool false,.string ⟨#[]⟩] 27 (0,0)):=(b9.block (w.heap.size+2) (by simp;omega)).trans (by rw[←u1];exact heap_alloc_new W1 _);have qz:∀ j,w9.cell? ⟨w.heap.size+2,j,none⟩=(#[.int .i64 0,.int .i64 0,.int .i64 0,.int .i64 0,.string ⟨#[]⟩,.string ⟨#[]⟩,.string ⟨#[]⟩,.slice none 0 0,.slice none 0 0,.slice none 0 0,.bool false,.string ⟨#[]⟩]:Array Value)[j]?:=fun j=>cell_of_row w9 _ j _ _ _ rz;have fz:∀ j,w9.frozen? ⟨w.heap.size+2,j,none⟩=false:=fun j=>frozen_of_row w9 _ j _ _ rz))))
 ·obtain ⟨nb,hnb⟩:∃ nb,nb=w9.heap.size:=⟨_,rfl⟩
  obtain ⟨WA,hWA⟩:∃ WA,WA=w9.alloc (.cells #[.int .i64 y0,.int .i64 y1,.int .i64 y2,.int .i64 y3,.string y4,.string y5,.string y6,.slice ya yb yc,.slice yd ye yf,.slice yg yh yi,.bool y7,.string y8] 27):=⟨_,rfl⟩
  have z9:W1.heap.size≤w9.heap.size:=b9.size
  have zA:WA.heap.size=w9.heap.size+1:=by rw[hWA];simp
  have FA:CntAt W1 WA nb R [.int .i64 y0,.int .i64 y1,.int .i64 y2,.int .i64 y3,.string y4,.string y5,.string y6,.slice ya yb yc,.slice yd ye yf,.slice yg yh yi,.bool y7,.string y8] lo E C:=by
   refine ⟨by rw[hWA,hnb];exact heap_alloc_new w9 _,hS9.2.trans (by rw[hWA];exact (Below.refl _ _).alloc z9 _),by omega,by omega,fun k hk=>⟨(hR k hk).1,by have:=(hR k hk).2;omega,by have:=(hR k hk).2;omega⟩,?_⟩
   cases lo with
   | bad q c=>exact hm
   | ok x=>exact ⟨hm.1,hm.2.1,IsN.frame (fun k hk=>⟨hk,by rw[hWA];exact heap_alloc_old w9 _ (hR k hk).2⟩) x.1 _ hm.2.2⟩
  rw[←hWA,←hnb]
  clear hWA hnb hR hm hS9 b9 z9 zA hS0 hS1 KA KB KD KS CS
  try clear qy fy
  obtain ⟨rA,bA,nb1,nb2,hRA,hmA⟩:=FA
  have h1:=HT.out
  have hA:=h1.below bA h1.lt
  have raA:=(bA.block (w.heap.size+1) (by omega)).trans ra
  have b0A:Below w.heap.size w WA:=b1.trans (bA.mono (by omega))
  have hgn:g≠nb:=by omega
  cases lo with
  | bad q c=>
   obtain ⟨rfl,hc0,rfl⟩:=hmA
   have hrest:o=.bad q C:=hrest
   subst hrest
   go_wp2_with fail
   refine (trExpect_bad q C hc0 _).mono ?_
   rintro e w10 ⟨rfl,rfl⟩
   exact ⟨rfl,rfl,below_lx b0A⟩
  | ok x=>
   obtain ⟨rfl,rfl,hN⟩:=hmA
   have hxs:=leaf_far HL.out
   have HNA:=Lib.hid hN
   have HrA:=Lib.hid rA
   have cA:=hA.cell
   have fA:=hA.free
   clear hN
   go_wp2_with fail
   refine (trExpect_ok x.2 _).mono ?_
   rintro e w10 ⟨rfl,rfl⟩
   go_wp2_with fail
   obtain ⟨WB,hWB⟩:∃ WB,WB=w10.setCell ⟨g,1,none⟩ (.int .i64 (x.2:Int)):=⟨_,rfl⟩
   have sB:∀ k,k≠g→WB.heap[k]?=w10.heap[k]?:=fun k hk=>by rw[hWB];exact heap_setCell_other _ _ _ _ hk
   have zB:WB.heap.size=w10.heap.size:=by rw[hWB];simp[World.setCell]
   have hB1:TrAt g s x.2 v WB:=by rw[hWB];exact heap_setCell_same _ _ 1 _ _ _ hA
   have kB:Keep (Lx g w.heap.size) w WB:=(below_lx b0A).trans (by rw[hWB];exact tr_keep1 _ _ _) (fun _ hk=>hk)
   rw[←hWB]
   clear hWB cA fA hA
   have rnB:=(sB nb (fun e=>hgn e.symm)).trans rA
   have raB:=(sB (w.heap.size+1) (by omega)).trans raA
   rcases hrest with ⟨q,c,hps,rfl⟩|⟨l,hps,rfl⟩
   ·refine (trSkip_is g s x.2 v WB hs hxs.2 hv hB1 _ hps).mono ?_
    rintro e w11 ⟨rfl,k11⟩
    exact ⟨rfl,rfl,kB.lx k11 kB.size⟩
   ·refine (trSkip_is g s x.2 v WB hs hxs.2 hv hB1 _ hps).mono ?_
    rintro e w11 ⟨rfl,hne,v',M⟩
    have k11:=M.keep
    have z11:=k11.size
    have rn11:=(k11.block nb ⟨by omega,fun e=>hgn e.symm⟩).trans rnB
    have ra11:=(k11.block (w.heap.size+1) ⟨by omega,by omega⟩).trans raB
    have zkB:=kB.size
    have HN11:IsN R w11 x.1 [.int .i64 y0,.int .i64 y1,.int .i64 y2,.int .i64 y3,.string y4,.string y5,.string y6,.slice ya yb yc,.slice yd ye yf,.slice yg yh yi,.bool y7,.string y8]:=IsN.frame (fun k hk=>⟨hk,(k11.block k ⟨by have:=(hRA k hk).2.1;omega,by have:=(hRA k hk).1;omega⟩).trans (sB k (by have:=(hRA k hk).1;omega))⟩) x.1 _ HNA.out
    have HH11:=Lib.hid HN11
    have HM:=Lib.hid M
    have HRN:=Lib.hid rn11
    have HRA:=Lib.hid ra11
    clear HN11 rnB raB sB rA raA
    obtain ⟨L,S,E2⟩:=l
    cases hS:S with
    | false=>
     subst hS
     have qn11:∀ j,w11.cell? ⟨nb,j,none⟩=(#[.int .i64 y0,.int .i64 y1,.int .i64 y2,.int .i64 y3,.string y4,.string y5,.string y6,.slice ya yb yc,.slice yd ye yf,.slice yg yh yi,.bool y7,.string y8]:Array Value)[j]?:=fun j=>cell_of_row w11 _ j _ _ _ rn11
     have fn11:∀ j,w11.frozen? ⟨nb,j,none⟩=false:=fun j=>frozen_of_row w11 _ j _ _ rn11
     have qa11:∀ j,w11.cell? ⟨w.heap.size+1,j,none⟩=(#[.int .i64 0,.int .i64 0,.int .i64 0,.int .i64 0,.string ⟨#[]⟩,.string ⟨#[]⟩,.string ⟨#[]⟩,.slice none 0 0,.slice none 0 0,.slice none 0 0,.bool false,.string ⟨#[]⟩]:Array Value)[j]?:=fun j=>cell_of_row w11 _ j _ _ _ ra11
     have fa11:∀ j,w11.frozen? ⟨w.heap.size+1,j,none⟩=false:=fun j=>frozen_of_row w11 _ j _ _ ra11
     clear rn11 ra11 M k11
     go_wp2
     obtain ⟨w12,hw12⟩:∃ w12,w12=((((((((((((w11.setCell ⟨w.heap.size+1,0,none⟩ (.int .i64 y0)).setCell ⟨w.heap.size+1,1,none⟩ (.int .i64 y1)).setCell ⟨w.heap.size+1,2,none⟩ (.int .i64 y2)).setCell ⟨w.heap.size+1,3,none⟩ (.int .i64 y3)).setCell ⟨w.heap.size+1,4,none⟩ (.string y4)).setCell ⟨w.heap.size+1,5,none⟩ (.string y5)).setCell ⟨w.heap.size+1,6,none⟩ (.string y6)).setCell ⟨w.heap.size+1,7,none⟩ (.slice ya yb yc)).setCell ⟨w.heap.size+1,8,none⟩ (.slice yd ye yf)).setCell ⟨w.heap.size+1,9,none⟩ (.slice yg yh yi)).setCell ⟨w.heap.size+1,10,none⟩ (.bool y7)).setCell ⟨w.heap.size+1,11,none⟩ (.string y8)):=⟨_,rfl⟩
     have r12:w12.heap[w.heap.size+1]?=some (.cells #[.int .i64 y0,.int .i64 y1,.int .i64 y2,.int .i64 y3,.string y4,.string y5,.string y6,.slice ya yb yc,.slice yd ye yf,.slice yg yh yi,.bool y7,.string y8] 27 (0,0)):=by rw[hw12];exact row12_set w11 (hg:=HRA.out) ..
     have b12:Below (w.heap.size+1) w11 w12:=by rw[hw12];exact row12_below w11 _ _ (Nat.le_refl _) _ _ _ _ _ _ _ _ _ _ _ _
     have z12:w12.heap.size=w11.heap.size:=by rw[hw12,row12_size]
     have s12:∀ k,¬ k=w.heap.size+1→w12.heap[k]?=w11.heap[k]?:=fun k hk=>by rw[hw12];exact row12_other w11 _ k hk ..
     rw[←hw12]
     clear hw12
     have hcz:∀ j,w12.cell? ⟨w.heap.size+1,j,none⟩=(#[.int .i64 y0,.int .i64 y1,.int .i64 y2,.int .i64 y3,.string y4,.string y5,.string y6,.slice ya yb yc,.slice yd ye yf,.slice yg yh yi,.bool y7,.string y8]:Array Value)[j]?:=fun j=>cell_of_row w12 _ j _ _ _ r12
     refine bodyPost_ret (v:=.agg #[.int .i64 y0,.int .i64 y1,.int .i64 y2,.int .i64 y3,.string y4,.string y5,.string y6,.slice ya yb yc,.slice yd ye yf,.slice yg yh yi,.bool y7,.string y8]) (by simp[results,Tryz.results54,go_sem,hcz]) rfl ?_
     have M:=HM.out
     have hte:trailT x.1 L false E2=(x.1,L,E2):=by unfold trailT;cases L <;> rfl
     show NodG g s w (trailT x.1 L false E2) _ _
     rw[hte]
     refine ⟨_,v',R,rfl,IsN.frame (fun k hk=>⟨hk,s12 k (by have:=(hRA k hk).1;omega)⟩) x.1 _ HH11.out,⟨(s12 g (by omega)).trans M.cells,M.has.keep (fun k hk _=>s12 k (by have:=(M.own k hk).1;omega)),fun k hk=>⟨by have:=(M.own k hk).1;omega,fun h=>by have:=(M.own k hk).1;have:=(hRA k h).2.1;omega⟩,fun k hk=>⟨by have:=(hRA k hk).1;omega,by have:=(hRA k hk).2.1;omega⟩,(kB.lx M.keep zkB).trans (Q:=fun k=>k<w.heap.size) ⟨b12.os,b12.tape,b12.output,by omega,fun k hk=>b12.block k (by omega)⟩ (fun _ hk=>hk.1),M.le,M.few⟩⟩
    | true=>
     subst hS
     obtain ⟨c,cs,rfl⟩:∃ c cs,L=c :: cs:=by
      cases L with
      | nil=>exact absurd rfl (hne rfl)
      | cons c cs=>exact ⟨c,cs,rfl⟩
     have hfew:(c :: cs).length≤s.size:=M.few
     have CT:=trTrail_is g s E2 v' nb _ c cs w11 M.cells M.has rn11 (Nat.le_refl 12) (fun e=>hgn e.symm) (fun e=>by have:=(M.own _ e).1;omega) (fun e=>by have:=(M.own _ e).1;omega) (by omega)
     go_wp2_with fail
     refine CT.mono ?_
     rintro e w13 ⟨rfl,v2,t1,t2,t3,t4,t5,t6⟩
     have rn13:w13.heap[nb]?=some (.cells #[.int .i64 y0,.int .i64 y1,.int .i64 y2,.int .i64 y3,.string y4,.string y5,.string y6,.slice ya yb yc,.slice yd ye yf,.slice yg yh yi,.bool true,.string ⟨c.1.toArray⟩] 27 (0,0)):=t6
     have ra13:=(t5.block (w.heap.size+1) ⟨by omega,by omega⟩).trans ra11
     have qn13:∀ j,w13.cell? ⟨nb,j,none⟩=(#[.int .i64 y0,.int .i64 y1,.int .i64 y2,.int .i64 y3,.string y4,.string y5,.string y6,.slice ya yb yc,.slice yd ye yf,.slice yg yh yi,.bool true,.string ⟨c.1.toArray⟩]:Array Value)[j]?:=fun j=>cell_of_row w13 _ j _ _ _ rn13
     have fn13:∀ j,w13.frozen? ⟨nb,j,none⟩=false:=fun j=>frozen_of_row w13 _ j _ _ rn13
     have qa13:∀ j,w13.cell? ⟨w.heap.size+1,j,none⟩=(#[.int .i64 0,.int .i64 0,.int .i64 0,.int .i64 0,.string ⟨#[]⟩,.string ⟨#[]⟩,.string ⟨#[]⟩,.slice none 0 0,.slice none 0 0,.slice none 0 0,.bool false,.string ⟨#[]⟩]:Array Value)[j]?:=fun j=>cell_of_row w13 _ j _ _ _ ra13
     have fa13:∀ j,w13.frozen? ⟨w.heap.size+1,j,none⟩=false:=fun j=>frozen_of_row w13 _ j _ _ ra13
     have HRA13:=Lib.hid ra13
     have HT2:=Lib.hid t2
     clear rn11 ra11 M k11 CT t6 rn13 ra13 t2
     go_wp2
     obtain ⟨w12,hw12⟩:∃ w12,w12=((((((((((((w13.setCell ⟨w.heap.size+1,0,none⟩ (.int .i64 y0)).setCell ⟨w.heap.size+1,1,none⟩ (.int .i64 y1)).setCell ⟨w.heap.size+1,2,none⟩ (.int .i64 y2)).setCell ⟨w.heap.size+1,3,none⟩ (.int .i64 y3)).setCell ⟨w.heap.size+1,4,none⟩ (.string y4)).setCell ⟨w.heap.size+1,5,none⟩ (.string y5)).setCell ⟨w.heap.size+1,6,none⟩ (.string y6)).setCell ⟨w.heap.size+1,7,none⟩ (.slice ya yb yc)).setCell ⟨w.heap.size+1,8,none⟩ (.slice yd ye yf)).setCell ⟨w.heap.size+1,9,none⟩ (.slice yg yh yi)).setCell ⟨w.heap.size+1,10,none⟩ (.bool true)).setCell ⟨w.heap.size+1,11,none⟩ (.string ⟨c.1.toArray⟩)):=⟨_,rfl⟩
     have r12:w12.heap[w.heap.size+1]?=some (.cells #[.int .i64 y0,.int .i64 y1,.int .i64 y2,.int .i64 y3,.string y4,.string y5,.string y6,.slice ya yb yc,.slice yd ye yf,.slice yg yh yi,.bool true,.string ⟨c.1.toArray⟩] 27 (0,0)):=by rw[hw12];exact row12_set w13 (hg:=HRA13.out) ..
     have b12:Below (w.heap.size+1) w13 w12:=by rw[hw12];exact row12_below w13 _ _ (Nat.le_refl _) _ _ _ _ _ _ _ _ _ _ _ _
     have z12:w12.heap.size=w13.heap.size:=by rw[hw12,row12_size]
     have s12:∀ k,¬ k=w.heap.size+1→w12.heap[k]?=w13.heap[k]?:=fun k hk=>by rw[hw12];exact row12_other w13 _ k hk ..
     rw[←hw12]
     clear hw12
     have hcz:∀ j,w12.cell? ⟨w.heap.size+1,j,none⟩=(#[.int .i64 y0,.int .i64 y1,.int .i64 y2,.int .i64 y3,.string y4,.string y5,.string y6,.slice ya yb yc,.slice yd ye yf,.slice yg yh yi,.bool true,.string ⟨c.1.toArray⟩]:Array Value)[j]?:=fun j=>cell_of_row w12 _ j _ _ _ r12
     refine bodyPost_ret (v:=.agg #[.int .i64 y0,.int .i64 y1,.int .i64 y2,.int .i64 y3,.string y4,.string y5,.string y6,.slice ya yb yc,.slice yd ye yf,.slice yg yh yi,.bool true,.string ⟨c.1.toArray⟩]) (by simp[results,Tryz.results54,go_sem,hcz]) rfl ?_
     have M:=HM.out
     have hN13:IsN R w13 x.1 [.int .i64 y0,.int .i64 y1,.int .i64 y2,.int .i64 y3,.string y4,.string y5,.string y6,.slice ya yb yc,.slice yd ye yf,.slice yg yh yi,.bool y7,.string y8]:=IsN.frame (fun k hk=>⟨hk,t5.block k ⟨by have:=(hRA k hk).1;omega,(hRA k hk).2.2⟩⟩) x.1 _ HH11.out
     have hN12:IsN R w12 (x.1.withTrail c.1) [.int .i64 y0,.int .i64 y1,.int .i64 y2,.int .i64 y3,.string y4,.string y5,.string y6,.slice ya yb yc,.slice yd ye yf,.slice yg yh yi,.bool true,.string ⟨c.1.toArray⟩]:=IsN.trail12 (IsN.frame (fun k hk=>⟨hk,s12 k (by have:=(hRA k hk).1;omega)⟩) x.1 _ hN13)
     refine ⟨_,v2,R,rfl,hN12,⟨(s12 g (by omega)).trans t1,HT2.out.keep (fun k hk _=>s12 k (by rw[t3] at hk;have:=(M.own k hk).1;omega)),fun k hk=>⟨by rw[t3] at hk;have:=(M.own k hk).1;omega,fun h=>by rw[t3] at hk;have:=(M.own k hk).1;have:=(hRA k h).2.1;omega⟩,fun k hk=>⟨by have:=(hRA k hk).1;omega,by have:=(hRA k hk).2.1;omega⟩,((kB.lx M.keep zkB).trans (Q:=fun k=>k≠g∧k≠nb) t5 (fun k hk=>⟨hk.2,by have:=hk.1;omega⟩)).trans (Q:=fun k=>k<w.heap.size) ⟨b12.os,b12.tape,b12.output,by omega,fun k hk=>b12.block k (by omega)⟩ (fun _ hk=>hk.1),M.le,by have:=M.few;show cs.length≤_;have:(c :: cs).length=cs.length+1:=rfl;omega⟩⟩
 ·obtain ⟨nb,hnb⟩:∃ nb,nb=w.heap.size+2:=⟨_,rfl⟩
  obtain ⟨WA,hWA⟩:∃ WA,WA=((((((((((((w9.setCell ⟨w.heap.size+2,0,none⟩ (.int .i64 y0)).setCell ⟨w.heap.size+2,1,none⟩ (.int .i64 y1)).setCell ⟨w.heap.size+2,2,none⟩ (.int .i64 y2)).setCell ⟨w.heap.size+2,3,none⟩ (.int .i64 y3)).setCell ⟨w.heap.size+2,4,none⟩ (.string y4)).setCell ⟨w.heap.size+2,5,none⟩ (.string y5)).setCell ⟨w.heap.size+2,6,none⟩ (.string y6)).setCell ⟨w.heap.size+2,7,none⟩ (.slice ya yb yc)).setCell ⟨w.heap.size+2,8,none⟩ (.slice yd ye yf)).setCell ⟨w.heap.size+2,9,none⟩ (.slice yg yh yi)).setCell ⟨w.heap.size+2,10,none⟩ (.bool y7)).setCell ⟨w.heap.size+2,11,none⟩ (.string y8)):=⟨_,rfl⟩
  have z9:W1.heap.size+1≤w9.heap.size:=by have:=b9.size;simpa using this
  have zA:WA.heap.size=w9.heap.size:=by rw[hWA,row12_size]
  have sA:∀ k,¬ k=w.heap.size+2→WA.heap[k]?=w9.heap[k]?:=fun k hk=>by rw[hWA];exact row12_other w9 _ k hk ..
  have hR2:∀ k,R k→W1.heap.size+1≤k∧k<w9.heap.size:=fun k hk=>⟨by have:=(hR k hk).1;simpa using this,(hR k hk).2⟩
  have FA:CntAt W1 WA nb R [.int .i64 y0,.int .i64 y1,.int .i64 y2,.int .i64 y3,.string y4,.string y5,.string y6,.slice ya yb yc,.slice yd ye yf,.slice yg yh yi,.bool y7,.string y8] lo E C:=by
   refine ⟨by rw[hWA,hnb];exact row12_set w9 (hg:=rz) ..,hS9.2.trans (by rw[hWA];exact row12_below w9 _ _ (by omega) _ _ _ _ _ _ _ _ _ _ _ _),by omega,by omega,fun k hk=>⟨by have:=(hR2 k hk).1;omega,by have:=(hR2 k hk).2;omega,by have:=(hR2 k hk).1;omega⟩,?_⟩
   cases lo with
   | bad q c=>exact hm
   | ok x=>exact ⟨hm.1,hm.2.1,IsN.frame (fun k hk=>⟨hk,sA k (by have:=(hR2 k hk).1;omega)⟩) x.1 _ hm.2.2⟩
  rw[←hWA,←hnb]
  clear hWA hnb hR hR2 hm hS9 b9 z9 zA sA rz qz fz hS0 hS1 KA KB KD KS CS
  try clear qy fy
  obtain ⟨rA,bA,nb1,nb2,hRA,hmA⟩:=FA
  have h1:=HT.out
  have hA:=h1.below bA h1.lt
  have raA:=(bA.block (w.heap.size+1) (by omega)).trans ra
  have b0A:Below w.heap.size w WA:=b1.trans (bA.mono (by omega))
  have hgn:g≠nb:=by omega
  cases lo with
  | bad q c=>
   obtain ⟨rfl,hc0,rfl⟩:=hmA
   have hrest:o=.bad q C:=hrest
   subst hrest
   go_wp2_with fail
   refine (trExpect_bad q C hc0 _).mono ?_
   rintro e w10 ⟨rfl,rfl⟩
   exact ⟨rfl,rfl,below_lx b0A⟩
  | ok x=>
   obtain ⟨rfl,rfl,hN⟩:=hmA
   have hxs:=leaf_far HL.out
   have HNA:=Lib.hid hN
   have HrA:=Lib.hid rA
   have cA:=hA.cell
   have fA:=hA.free
   clear hN
   go_wp2_with fail
   refine (trExpect_ok x.2 _).mono ?_
   rintro e w10 ⟨rfl,rfl⟩
   go_wp2_with fail
   obtain ⟨WB,hWB⟩:∃ WB,WB=w10.setCell ⟨g,1,none⟩ (.int .i64 (x.2:Int)):=⟨_,rfl⟩
   have sB:∀ k,k≠g→WB.heap[k]?=w10.heap[k]?:=fun k hk=>by rw[hWB];exact heap_setCell_other _ _ _ _ hk
   have zB:WB.heap.size=w10.heap.size:=by rw[hWB];simp[World.setCell]
   have hB1:TrAt g s x.2 v WB:=by rw[hWB];exact heap_setCell_same _ _ 1 _ _ _ hA
   have kB:Keep (Lx g w.heap.size) w WB:=(below_lx b0A).trans (by rw[hWB];exact tr_keep1 _ _ _) (fun _ hk=>hk)
   rw[←hWB]
   clear hWB cA fA hA
   have rnB:=(sB nb (fun e=>hgn e.symm)).trans rA
   have raB:=(sB (w.heap.size+1) (by omega)).trans raA
   rcases hrest with ⟨q,c,hps,rfl⟩|⟨l,hps,rfl⟩
   ·refine (trSkip_is g s x.2 v WB hs hxs.2 hv hB1 _ hps).mono ?_
    rintro e w11 ⟨rfl,k11⟩
    exact ⟨rfl,rfl,kB.lx k11 kB.size⟩
   ·refine (trSkip_is g s x.2 v WB hs hxs.2 hv hB1 _ hps).mono ?_
    rintro e w11 ⟨rfl,hne,v',M⟩
    have k11:=M.keep
    have z11:=k11.size
    have rn11:=(k11.block nb ⟨by omega,fun e=>hgn e.symm⟩).trans rnB
    have ra11:=(k11.block (w.heap.size+1) ⟨by omega,by omega⟩).trans raB
    have zkB:=kB.size
    have HN11:IsN R w11 x.1 [.int .i64 y0,.int .i64 y1,.int .i64 y2,.int .i64 y3,.string y4,.string y5,.string y6,.slice ya yb yc,.slice yd ye yf,.slice yg yh yi,.bool y7,.string y8]:=IsN.frame (fun k hk=>⟨hk,(k11.block k ⟨by have:=(hRA k hk).2.1;omega,by have:=(hRA k hk).1;omega⟩).trans (sB k (by have:=(hRA k hk).1;omega))⟩) x.1 _ HNA.out
    have HH11:=Lib.hid HN11
    have HM:=Lib.hid M
    have HRN:=Lib.hid rn11
    have HRA:=Lib.hid ra11
    clear HN11 rnB raB sB rA raA
    obtain ⟨L,S,E2⟩:=l
    cases hS:S with
    | false=>
     subst hS
     have qn11:∀ j,w11.cell? ⟨nb,j,none⟩=(#[.int .i64 y0,.int .i64 y1,.int .i64 y2,.int .i64 y3,.string y4,.string y5,.string y6,.slice ya yb yc,.slice yd ye yf,.slice yg yh yi,.bool y7,.string y8]:Array Value)[j]?:=fun j=>cell_of_row w11 _ j _ _ _ rn11
     have fn11:∀ j,w11.frozen? ⟨nb,j,none⟩=false:=fun j=>frozen_of_row w11 _ j _ _ rn11
     have qa11:∀ j,w11.cell? ⟨w.heap.size+1,j,none⟩=(#[.int .i64 0,.int .i64 0,.int .i64 0,.int .i64 0,.string ⟨#[]⟩,.string ⟨#[]⟩,.string ⟨#[]⟩,.slice none 0 0,.slice none 0 0,.slice none 0 0,.bool false,.string ⟨#[]⟩]:Array Value)[j]?:=fun j=>cell_of_row w11 _ j _ _ _ ra11
     have fa11:∀ j,w11.frozen? ⟨w.heap.size+1,j,none⟩=false:=fun j=>frozen_of_row w11 _ j _ _ ra11
     clear rn11 ra11 M k11
     go_wp2
     obtain ⟨w12,hw12⟩:∃ w12,w12=((((((((((((w11.setCell ⟨w.heap.size+1,0,none⟩ (.int .i64 y0)).setCell ⟨w.heap.size+1,1,none⟩ (.int .i64 y1)).setCell ⟨w.heap.size+1,2,none⟩ (.int .i64 y2)).setCell ⟨w.heap.size+1,3,none⟩ (.int .i64 y3)).setCell ⟨w.heap.size+1,4,none⟩ (.string y4)).setCell ⟨w.heap.size+1,5,none⟩ (.string y5)).setCell ⟨w.heap.size+1,6,none⟩ (.string y6)).setCell ⟨w.heap.size+1,7,none⟩ (.slice ya yb yc)).setCell ⟨w.heap.size+1,8,none⟩ (.slice yd ye yf)).setCell ⟨w.heap.size+1,9,none⟩ (.slice yg yh yi)).setCell ⟨w.heap.size+1,10,none⟩ (.bool y7)).setCell ⟨w.heap.size+1,11,none⟩ (.string y8)):=⟨_,rfl⟩
     have r12:w12.heap[w.heap.size+1]?=some (.cells #[.int .i64 y0,.int .i64 y1,.int .i64 y2,.int .i64 y3,.string y4,.string y5,.string y6,.slice ya yb yc,.slice yd ye yf,.slice yg yh yi,.bool y7,.string y8] 27 (0,0)):=by rw[hw12];exact row12_set w11 (hg:=HRA.out) ..
     have b12:Below (w.heap.size+1) w11 w12:=by rw[hw12];exact row12_below w11 _ _ (Nat.le_refl _) _ _ _ _ _ _ _ _ _ _ _ _
     have z12:w12.heap.size=w11.heap.size:=by rw[hw12,row12_size]
     have s12:∀ k,¬ k=w.heap.size+1→w12.heap[k]?=w11.heap[k]?:=fun k hk=>by rw[hw12];exact row12_other w11 _ k hk ..
     rw[←hw12]
     clear hw12
     have hcz:∀ j,w12.cell? ⟨w.heap.size+1,j,none⟩=(#[.int .i64 y0,.int .i64 y1,.int .i64 y2,.int .i64 y3,.string y4,.string y5,.string y6,.slice ya yb yc,.slice yd ye yf,.slice yg yh yi,.bool y7,.string y8]:Array Value)[j]?:=fun j=>cell_of_row w12 _ j _ _ _ r12
     refine bodyPost_ret (v:=.agg #[.int .i64 y0,.int .i64 y1,.int .i64 y2,.int .i64 y3,.string y4,.string y5,.string y6,.slice ya yb yc,.slice yd ye yf,.slice yg yh yi,.bool y7,.string y8]) (by simp[results,Tryz.results54,go_sem,hcz]) rfl ?_
     have M:=HM.out
     have hte:trailT x.1 L false E2=(x.1,L,E2):=by unfold trailT;cases L <;> rfl
     show NodG g s w (trailT x.1 L false E2) _ _
     rw[hte]
     refine ⟨_,v',R,rfl,IsN.frame (fun k hk=>⟨hk,s12 k (by have:=(hRA k hk).1;omega)⟩) x.1 _ HH11.out,⟨(s12 g (by omega)).trans M.cells,M.has.keep (fun k hk _=>s12 k (by have:=(M.own k hk).1;omega)),fun k hk=>⟨by have:=(M.own k hk).1;omega,fun h=>by have:=(M.own k hk).1;have:=(hRA k h).2.1;omega⟩,fun k hk=>⟨by have:=(hRA k hk).1;omega,by have:=(hRA k hk).2.1;omega⟩,(kB.lx M.keep zkB).trans (Q:=fun k=>k<w.heap.size) ⟨b12.os,b12.tape,b12.output,by omega,fun k hk=>b12.block k (by omega)⟩ (fun _ hk=>hk.1),M.le,M.few⟩⟩
    | true=>
     subst hS
     obtain ⟨c,cs,rfl⟩:∃ c cs,L=c :: cs:=by
      cases L with
      | nil=>exact absurd rfl (hne rfl)
      | cons c cs=>exact ⟨c,cs,rfl⟩
     have hfew:(c :: cs).length≤s.size:=M.few
     have CT:=trTrail_is g s E2 v' nb _ c cs w11 M.cells M.has rn11 (Nat.le_refl 12) (fun e=>hgn e.symm) (fun e=>by have:=(M.own _ e).1;omega) (fun e=>by have:=(M.own _ e).1;omega) (by omega)
     go_wp2_with fail
     refine CT.mono ?_
     rintro e w13 ⟨rfl,v2,t1,t2,t3,t4,t5,t6⟩
     have rn13:w13.heap[nb]?=some (.cells #[.int .i64 y0,.int .i64 y1,.int .i64 y2,.int .i64 y3,.string y4,.string y5,.string y6,.slice ya yb yc,.slice yd ye yf,.slice yg yh yi,.bool true,.string ⟨c.1.toArray⟩] 27 (0,0)):=t6
     have ra13:=(t5.block (w.heap.size+1) ⟨by omega,by omega⟩).trans ra11
     have qn13:∀ j,w13.cell? ⟨nb,j,none⟩=(#[.int .i64 y0,.int .i64 y1,.int .i64 y2,.int .i64 y3,.string y4,.string y5,.string y6,.slice ya yb yc,.slice yd ye yf,.slice yg yh yi,.bool true,.string ⟨c.1.toArray⟩]:Array Value)[j]?:=fun j=>cell_of_row w13 _ j _ _ _ rn13
     have fn13:∀ j,w13.frozen? ⟨nb,j,none⟩=false:=fun j=>frozen_of_row w13 _ j _ _ rn13
     have qa13:∀ j,w13.cell? ⟨w.heap.size+1,j,none⟩=(#[.int .i64 0,.int .i64 0,.int .i64 0,.int .i64 0,.string ⟨#[]⟩,.string ⟨#[]⟩,.string ⟨#[]⟩,.slice none 0 0,.slice none 0 0,.slice none 0 0,.bool false,.string ⟨#[]⟩]:Array Value)[j]?:=fun j=>cell_of_row w13 _ j _ _ _ ra13
     have fa13:∀ j,w13.frozen? ⟨w.heap.size+1,j,none⟩=false:=fun j=>frozen_of_row w13 _ j _ _ ra13
     have HRA13:=Lib.hid ra13
     have HT2:=Lib.hid t2
     clear rn11 ra11 M k11 CT t6 rn13 ra13 t2
     go_wp2
     obtain ⟨w12,hw12⟩:∃ w12,w12=((((((((((((w13.setCell ⟨w.heap.size+1,0,none⟩ (.int .i64 y0)).setCell ⟨w.heap.size+1,1,none⟩ (.int .i64 y1)).setCell ⟨w.heap.size+1,2,none⟩ (.int .i64 y2)).setCell ⟨w.heap.size+1,3,none⟩ (.int .i64 y3)).setCell ⟨w.heap.size+1,4,none⟩ (.string y4)).setCell ⟨w.heap.size+1,5,none⟩ (.string y5)).setCell ⟨w.heap.size+1,6,none⟩ (.string y6)).setCell ⟨w.heap.size+1,7,none⟩ (.slice ya yb yc)).setCell ⟨w.heap.size+1,8,none⟩ (.slice yd ye yf)).setCell ⟨w.heap.size+1,9,none⟩ (.slice yg yh yi)).setCell ⟨w.heap.size+1,10,none⟩ (.bool true)).setCell ⟨w.heap.size+1,11,none⟩ (.string ⟨c.1.toArray⟩)):=⟨_,rfl⟩
     have r12:w12.heap[w.heap.size+1]?=some (.cells #[.int .i64 y0,.int .i64 y1,.int .i64 y2,.int .i64 y3,.string y4,.string y5,.string y6,.slice ya yb yc,.slice yd ye yf,.slice yg yh yi,.bool true,.string ⟨c.1.toArray⟩] 27 (0,0)):=by rw[hw12];exact row12_set w13 (hg:=HRA13.out) ..
     have b12:Below (w.heap.size+1) w13 w12:=by rw[hw12];exact row12_below w13 _ _ (Nat.le_refl _) _ _ _ _ _ _ _ _ _ _ _ _
     have z12:w12.heap.size=w13.heap.size:=by rw[hw12,row12_size]
     have s12:∀ k,¬ k=w.heap.size+1→w12.heap[k]?=w13.heap[k]?:=fun k hk=>by rw[hw12];exact row12_other w13 _ k hk ..
     rw[←hw12]
     clear hw12
     have hcz:∀ j,w12.cell? ⟨w.heap.size+1,j,none⟩=(#[.int .i64 y0,.int .i64 y1,.int .i64 y2,.int .i64 y3,.string y4,.string y5,.string y6,.slice ya yb yc,.slice yd ye yf,.slice yg yh yi,.bool true,.string ⟨c.1.toArray⟩]:Array Value)[j]?:=fun j=>cell_of_row w12 _ j _ _ _ r12
     refine bodyPost_ret (v:=.agg #[.int .i64 y0,.int .i64 y1,.int .i64 y2,.int .i64 y3,.string y4,.string y5,.string y6,.slice ya yb yc,.slice yd ye yf,.slice yg yh yi,.bool true,.string ⟨c.1.toArray⟩]) (by simp[results,Tryz.results54,go_sem,hcz]) rfl ?_
     have M:=HM.out
     have hN13:IsN R w13 x.1 [.int .i64 y0,.int .i64 y1,.int .i64 y2,.int .i64 y3,.string y4,.string y5,.string y6,.slice ya yb yc,.slice yd ye yf,.slice yg yh yi,.bool y7,.string y8]:=IsN.frame (fun k hk=>⟨hk,t5.block k ⟨by have:=(hRA k hk).1;omega,(hRA k hk).2.2⟩⟩) x.1 _ HH11.out
     have hN12:IsN R w12 (x.1.withTrail c.1) [.int .i64 y0,.int .i64 y1,.int .i64 y2,.int .i64 y3,.string y4,.string y5,.string y6,.slice ya yb yc,.slice yd ye yf,.slice yg yh yi,.bool true,.string ⟨c.1.toArray⟩]:=IsN.trail12 (IsN.frame (fun k hk=>⟨hk,s12 k (by have:=(hRA k hk).1;omega)⟩) x.1 _ hN13)
     refine ⟨_,v2,R,rfl,hN12,⟨(s12 g (by omega)).trans t1,HT2.out.keep (fun k hk _=>s12 k (by rw[t3] at hk;have:=(M.own k hk).1;omega)),fun k hk=>⟨by rw[t3] at hk;have:=(M.own k hk).1;omega,fun h=>by rw[t3] at hk;have:=(M.own k hk).1;have:=(hRA k h).2.1;omega⟩,fun k hk=>⟨by have:=(hRA k hk).1;omega,by have:=(hRA k hk).2.1;omega⟩,((kB.lx M.keep zkB).trans (Q:=fun k=>k≠g∧k≠nb) t5 (fun k hk=>⟨hk.2,by have:=hk.1;omega⟩)).trans (Q:=fun k=>k<w.heap.size) ⟨b12.os,b12.tape,b12.output,by omega,fun k hk=>b12.block k (by omega)⟩ (fun _ hk=>hk.1),M.le,by have:=M.few;show cs.length≤_;have:(c :: cs).length=cs.length+1:=rfl;omega⟩⟩
end Go.Proofs.YthcmkpiajkbpnaaGreatDoor
