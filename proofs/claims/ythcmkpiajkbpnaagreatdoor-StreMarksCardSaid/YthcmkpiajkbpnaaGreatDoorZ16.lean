/- Parts of the proof, put together from smaller texts (blanks that Lean does not want are struck). Conditions: those that each theorem writes out. -/
import Derived.Test.YthcmkpiajkbpnaaGreatDoorZ15
namespace Go.Proofs.YthcmkpiajkbpnaaGreatDoor
open Go.RowKit
structure TrM (g:Nat) (s:ByteArray) (w w':World) (p:Nat) (v:Value) (L:Coms) (R:Nat→Prop):Prop where
 cells:TrAt g s p v w'
 has:HasV 2 w' v L.length (comV L)
 own:∀ k,v.ownBlock=some k→w.heap.size≤k∧¬ R k
 new:∀ k,R k→w.heap.size≤k∧k<w'.heap.size
 keep:Keep (Lx g w.heap.size) w w'
 le:p≤s.size
 few:L.length≤s.size
def TrPost {α:Type} (g:Nat) (w:World) (o:Rd α) (good:α→Ending→World→Prop) (e:Ending) (w':World):Prop:=match o with
 | .ok x=>good x e w'
 | .bad q c=>e=flt q c∧Keep (Lx g w.heap.size) w w'
def NodG (g:Nat) (s:ByteArray) (w:World) (x:Tre) (e:Ending) (w':World):Prop:=∃ cs v R,e=.returned (.agg cs.toArray)∧IsN R w' x.1 cs∧TrM g s w w' x.2.2 v x.2.1 R
section
variable {g:Nat} {s:ByteArray}
theorem Lx.mono {g B B':Nat} (h:B≤B'):∀ k,Lx g B k→Lx g B' k:=fun _ hk=>⟨Nat.lt_of_lt_of_le hk.1 h,hk.2⟩
theorem Keep.lx {g B:Nat} {a b c:World} (h1:Keep (Lx g B) a b) (h2:Keep (Lx g b.heap.size) b c) (hB:B≤b.heap.size):Keep (Lx g B) a c:=h1.trans h2 (Lx.mono hB)
theorem Keep.lxB {B:Nat} {a b c:World} (h1:Keep (Lx g B) a b) (h2:Below b.heap.size b c) (hB:B≤b.heap.size):Keep (Lx g B) a c:=h1.lx (Keep.of h2 (fun _ hk=>hk.1)) hB
theorem below_lx {B:Nat} {a b:World} (h:Below B a b):Keep (Lx g B) a b:=Keep.of h (fun _ hk=>hk.1)
theorem TrM.mono {w w1 w':World} {p:Nat} {v:Value} {L:Coms} {R:Nat→Prop} (h:TrM g s w1 w' p v L R) (h0:Keep (Lx g w.heap.size) w w1):TrM g s w w' p v L R:=
 ⟨h.cells,h.has,fun k hk=>⟨Nat.le_trans h0.size (h.own k hk).1,(h.own k hk).2⟩,fun k hk=>⟨Nat.le_trans h0.size (h.new k hk).1,(h.new k hk).2⟩,h0.lx h.keep h0.size,h.le,h.few⟩
theorem TrM.below {w w' w2:World} {p:Nat} {v:Value} {L:Coms} {R:Nat→Prop} (h:TrM g s w w' p v L R) (hb:Below w'.heap.size w' w2):TrM g s w w2 p v L R:=
 ⟨h.cells.below hb h.cells.lt,h.has.below hb (Nat.le_refl _),h.own,fun k hk=>⟨(h.new k hk).1,Nat.lt_of_lt_of_le (h.new k hk).2 hb.size⟩,h.keep.lxB hb h.keep.size,h.le,h.few⟩
end
theorem tr_set2 {g:Nat} {s:ByteArray} {p q:Nat} {v v':Value} {w:World} (h:TrAt g s p v w):TrAt g s q v' ((w.setCell ⟨g,2,none⟩ v').setCell ⟨g,1,none⟩ (.int .i64 (q:Int))):=
 heap_setCell_same _ _ 1 _ _ _ (heap_setCell_same _ _ 2 _ _ _ h)
theorem tr_keep2 {g B:Nat} (w:World) (i j:Nat) (v v':Value):Keep (Lx g B) w ((w.setCell ⟨g,i,none⟩ v).setCell ⟨g,j,none⟩ v'):=
 ((Keep.refl _ _).setCell (p:=⟨g,i,none⟩) (fun h=>h.2 rfl) v).setCell (p:=⟨g,j,none⟩) (fun h=>h.2 rfl) v'
theorem tr_keep1 {g B:Nat} (w:World) (i:Nat) (v:Value):Keep (Lx g B) w (w.setCell ⟨g,i,none⟩ v):=(Keep.refl _ _).setCell (p:=⟨g,i,none⟩) (fun h=>h.2 rfl) v
theorem NZ.factsW {s:ByteArray} {wi:Bool} {n:Int} {a:Nat} {sm:Bool} {L:List (List UInt8 × Nat)} {S:Bool} {E:Nat} {C:Int} {p:Nat} {m f:Bool} {o:List (List UInt8 × Nat)} {b:Bool}
  (h:NZ s wi n a sm L S E C p m f o b):p≤s.size→(b=true→o≠[])→(S=true→L≠[])∧(C=0→L.length+p≤E+o.length)∧(C≠0→L=[]):=by
 induction h with
 | over h1 h2 h3 h4 h5=>intro hp hb;subst_vars;exact ⟨hb,fun _=>by omega,fun h=>absurd rfl h⟩
 | mark h1 h2 h3 h4 h5 h6 h7 h8 h9=>intro hp hb;subst_vars;exact ⟨hb,fun _=>by omega,fun h=>absurd rfl h⟩
 | markX h1 h2 h3 h4 h5 h6 h7 h8 h9 h10=>intro hp hb;subst_vars;exact ⟨(fun h=>by cases h),(fun h=>by cases h),fun _=>rfl⟩
 | tab h1 h2 h3 h4 h5 h6 h7 h8 h9 h10=>intro hp hb;subst_vars;exact ⟨(fun h=>by cases h),(fun h=>by cases h),fun _=>rfl⟩
 | far h1 h2 h3 h4 h5 h6 h7 h8 h9 h10 h11 h12=>intro hp hb;subst_vars;exact ⟨(fun h=>by cases h),(fun h=>by cases h),fun _=>rfl⟩
 | met h1 h2 h3 h4 h5 h6 h7 h8 h9 ih=>exact ih
 | white h1 h2 h3 ih=>intro hp hb;have:=ih (by omega) hb;exact ⟨this.1,fun h=>by have:=this.2.1 h;omega,this.2.2⟩
 | lf h1 h2 h3 ih=>intro hp hb;have:=ih (by omega) hb;exact ⟨this.1,fun h=>by have:=this.2.1 h;omega,this.2.2⟩
 | com h1 h2 h3 h4 h5 h6 ih=>
  intro hp hb
  have h7:=nt_row h2 h1 h3
  have:=ih h3.2.1 (fun _ h=>by simp at h)
  refine ⟨this.1,fun h=>?_,this.2.2⟩
  have:=this.2.1 h
  rw[List.length_append] at this
  simp only[List.length_cons,List.length_nil] at this
  omega
 | stop h1 h2 h3 h4 h5 h6 h7 h8=>intro hp hb;subst_vars;exact ⟨hb,fun _=>by omega,fun h=>absurd rfl h⟩
theorem facts_of {s:ByteArray} {wi:Bool} {n:Int} {p:Nat} {L:Coms} {S:Bool} {E C:Int} (h:NoteZ s wi n (p:Int) L S E C) (hp:p≤s.size):(S=true→L≠[])∧(C=0→L.length+p≤E.toNat)∧(C≠0→L=[]):=by
 obtain ⟨r0,E',hr,rfl,hN⟩:=h
 rw[clampN_nat hp] at hN
 have:=hN.factsW hp (fun h=>by cases h)
 exact ⟨this.1,fun h=>by have:=this.2.1 h;simpa using this,this.2.2⟩
set_option maxRecDepth 100000 in
set_option maxHeartbeats 800000 in
theorem trSkip_is (g:Nat) (s:ByteArray) (p:Nat) (v:Value) (w:World) (hs:s.size≤10000) (hp:p≤s.size) (hv:∃ a n c,v=.slice a n c) (h:TrAt g s p v w) (o:Rd (Coms × Bool × Nat)) (ho:passR s p o) :
  Calls Tryz.prog 25 #[.pointer (some ⟨g,0,none⟩)] w fun e w'=>TrPost g w o (fun l e w'=>e=.returned (.bool l.2.1)∧(l.2.1=true→l.1≠[])∧∃ v',TrM g s w w' l.2.2 v' l.1 (fun _=>False)) e w':=by
 obtain ⟨L,S,E,C,hZ,ho⟩:=ho
 obtain ⟨E',rfl,f1,f2⟩:=hZ.far_le hp
 obtain ⟨k1,k2,k3⟩:=facts_of hZ hp
 rw[Int.toNat_natCast] at ho k2
 have CW:=fun W=>noteSkip_is L S (E':Int) C s (p:Int) W (by omega) hZ
 obtain ⟨va,vn,vc,rfl⟩:=hv
 have hg:=h.lt
 have hc:=h.cell
 have HA:=Lib.hid h
 clear h hZ
 go_enter Tryz.func25,Tryz.ntmps25
 go_wp2_with fail
 have hS0:(w.drew.cell? ⟨g,0,none⟩=some (.string s)∧w.drew.cell? ⟨g,1,none⟩=some (.int .i64 (p:Int)))∧Below w.heap.size w w.drew:=⟨⟨hc 0,hc 1⟩,(Below.refl _ _).drew⟩
 have CS:∀ W:World,((W.cell? ⟨g,0,none⟩=some (.string s)∧W.cell? ⟨g,1,none⟩=some (.int .i64 (p:Int)))∧Below w.heap.size w W)→Calls Tryz.prog 20 #[.string s,.int .i64 (p:Int)] W fun e w'=>∃ v,e=.returned (.tuple #[v,.bool S,.int .i64 (E':Int),.int .i64 C])∧((w'.cell? ⟨g,0,none⟩=some (.string s)∧w'.cell? ⟨g,1,none⟩=some (.int .i64 (p:Int)))∧Below w.heap.size w w')∧OutC w.heap.size w' v L:=fun W hS=>by
  refine (CW W).mono ?_
  rintro e w8 ⟨v,a1,a2,a3⟩
  have b8:=hS.2.trans (a3.mono hS.2.size)
  have h8:=HA.out.below b8 hg
  exact ⟨v,a1,⟨⟨h8.cell 0,h8.cell 1⟩,b8⟩,⟨a2.1,a2.2.imp id fun ⟨k,c,cur,g1,g2,g3⟩=>⟨k,c,cur,g1,Nat.le_trans hS.2.size g2,g3⟩⟩⟩
 clear hc
 go_region_held3 (fun w'=>(w'.cell? ⟨g,0,none⟩=some (.string s)∧w'.cell? ⟨g,1,none⟩=some (.int .i64 (p:Int)))∧Below w.heap.size w w') (first|assumption|exact hS0)
  (first|(go_at_call 20;refine (CS _ (by assumption)).mono ?_;rintro e w9 ⟨vn,rfl,hS9,hx9⟩))
 have b9:=hS9.2
 have h9:=HA.out.below b9 hg
 have hh9:=HasV.of_own hx9
 obtain ⟨an,cn,hn⟩:=hh9.form
 subst hn
 have sz9:=b9.size
 have hown:∀ k,(Value.slice an L.length cn).ownBlock=some k→w.heap.size≤k:=fun k hk=>(hx9.lt k hk).1
 have HH9:=Lib.hid hh9
 have HO9:=Lib.hid hown
 have H9:=Lib.hid h9
 have B9:=Lib.hid b9
 clear hS9 CW CS hS0 hx9 hh9 hown h9 b9
 by_cases hC:C=0
 ·subst hC
  rw[if_pos rfl] at ho
  subst ho
  go_wp2_with fail
  refine (trExpect_ok E' _).mono ?_
  rintro e w10 ⟨rfl,rfl⟩
  have hc9:=H9.out.cell
  have hz9:=H9.out.free
  go_wp2
  go_ret
  have hg9:=H9.out.lt
  refine ⟨rfl,k1,_,tr_set2 H9.out,HH9.out.keep (fun k hk _=>?_),fun k hk=>⟨HO9.out k hk,fun h=>h⟩,fun k h=>h.elim,(below_lx B9.out).trans (tr_keep2 _ _ _ _ _) (fun _ hk=>hk),f2,by have:=k2 trivial;show L.length≤_;omega⟩
  have hkg:k≠g:=fun e=>by have:=HO9.out k hk;omega
  rw[heap_setCell_other _ _ _ _ hkg,heap_setCell_other _ _ _ _ hkg]
 ·rw[if_neg hC] at ho
  subst ho
  go_wp2_with fail
  refine (trExpect_bad E' C hC _).mono ?_
  rintro e w10 ⟨rfl,rfl⟩
  exact ⟨rfl,rfl,below_lx B9.out⟩
set_option maxRecDepth 100000 in
theorem trBlank_is (w:World):Calls Tryz.prog 48 #[] w fun e w'=>e=.returned (.agg #[.int .i64 1,.int .i64 1,.int .i64 (-1),.int .i64 0,.string ⟨#[]⟩,.string ⟨#[]⟩,.string ⟨#[]⟩,.slice none 0 0,.slice none 0 0,.slice none 0 0,.bool false,.string ⟨#[]⟩])∧Below w.heap.size w w':=by
 go_enter Tryz.func48,Tryz.ntmps48
 go_wp2
 have hcz:∀ j,(w.alloc (.cells #[.int .i64 1,.int .i64 1,.int .i64 (-1),.int .i64 0,.string ⟨#[]⟩,.string ⟨#[]⟩,.string ⟨#[]⟩,.slice none 0 0,.slice none 0 0,.slice none 0 0,.bool false,.string ⟨#[]⟩] 27)).cell? ⟨w.heap.size,j,none⟩=(#[.int .i64 1,.int .i64 1,.int .i64 (-1),.int .i64 0,.string ⟨#[]⟩,.string ⟨#[]⟩,.string ⟨#[]⟩,.slice none 0 0,.slice none 0 0,.slice none 0 0,.bool false,.string ⟨#[]⟩]:Array Value)[j]?:=fun j=>cell_of_row _ _ j _ _ _ (heap_alloc_new w _)
 refine bodyPost_ret (v:=.agg #[.int .i64 1,.int .i64 1,.int .i64 (-1),.int .i64 0,.string ⟨#[]⟩,.string ⟨#[]⟩,.string ⟨#[]⟩,.slice none 0 0,.slice none 0 0,.slice none 0 0,.bool false,.string ⟨#[]⟩]) (by simp[results,Tryz.results48,go_sem,hcz]) rfl ?_
 exact ⟨rfl,(Below.refl _ _).alloc (Nat.le_refl _) _⟩
theorem trail_at {g:Nat} {s:ByteArray} {p:Nat} {v v':Value} {kb:Nat} {arr:Array Value} {cs:Coms} {X:ByteArray} {w:World} (hA:TrAt g s p v w) (hk:w.heap[kb]?=some (.cells arr 27 (0,0))) (hkg:kb≠g)
  (hv:HasV 2 w v' cs.length (comV cs)) (hg:v'.ownBlock≠some g) (hvk:v'.ownBlock≠some kb) :
  TrAt g s p v' (((w.setCell ⟨kb,10,none⟩ (.bool true)).setCell ⟨kb,11,none⟩ (.string X)).setCell ⟨g,2,none⟩ v')∧HasV 2 (((w.setCell ⟨kb,10,none⟩ (.bool true)).setCell ⟨kb,11,none⟩ (.string X)).setCell ⟨g,2,none⟩ v') v' cs.length (comV cs) ∧
  (((w.setCell ⟨kb,10,none⟩ (.bool true)).setCell ⟨kb,11,none⟩ (.string X)).setCell ⟨g,2,none⟩ v').heap.size=w.heap.size ∧
  Keep (fun k=>k≠g∧k≠kb) w (((w.setCell ⟨kb,10,none⟩ (.bool true)).setCell ⟨kb,11,none⟩ (.string X)).setCell ⟨g,2,none⟩ v') ∧
  (((w.setCell ⟨kb,10,none⟩ (.bool true)).setCell ⟨kb,11,none⟩ (.string X)).setCell ⟨g,2,none⟩ v').heap[kb]?=some (.cells ((arr.setIfInBounds 10 (.bool true)).setIfInBounds 11 (.string X)) 27 (0,0)):=by
 have hgk:g≠kb:=fun e=>hkg e.symm
 have h1:((w.setCell ⟨kb,10,none⟩ (.bool true)).setCell ⟨kb,11,none⟩ (.string X)).heap[g]?=w.heap[g]?:=by rw[heap_setCell_other _ _ _ _ hgk,heap_setCell_other _ _ _ _ hgk]
 have h2:∀ k,k≠g→k≠kb→(((w.setCell ⟨kb,10,none⟩ (.bool true)).setCell ⟨kb,11,none⟩ (.string X)).setCell ⟨g,2,none⟩ v').heap[k]?=w.heap[k]?:=fun k k1 k2=>by
  rw[heap_setCell_other _ _ _ _ k1,heap_setCell_other _ _ _ _ k2,heap_setCell_other _ _ _ _ k2]
 refine ⟨heap_setCell_same _ _ 2 _ _ _ (h1.trans hA),hv.keep (fun k e _=>h2 k (fun e2=>hg (by rw[e,e2])) (fun e2=>hvk (by rw[e,e2]))),by simp[World.setCell],⟨rfl,rfl,rfl,by simp[World.setCell],fun k hk=>h2 k hk.1 hk.2⟩,?_⟩
 rw[heap_setCell_other _ _ _ _ hkg]
 exact heap_setCell_same _ _ 11 _ _ _ (heap_setCell_same _ _ 10 _ _ _ hk)
set_option maxRecDepth 100000 in
set_option maxHeartbeats 1600000 in
theorem trTrail_is (g:Nat) (s:ByteArray) (p:Nat) (v:Value) (kb:Nat) (arr:Array Value) (c:List UInt8 × Nat) (cs:Coms) (w:World) (hA:TrAt g s p v w) (hH:HasV 2 w v (c :: cs).length (comV (c :: cs))) (hk:w.heap[kb]?=some (.cells arr 27 (0,0))) (ho:12≤arr.size) (hkg:kb≠g) (hkv:v.ownBlock≠some kb) (hap:v.ownBlock≠some g) (hfew:(c :: cs).length≤100000) :
  Calls Tryz.prog 49 #[.pointer (some ⟨g,0,none⟩),.pointer (some ⟨kb,0,none⟩)] w fun e w'=>e=.returned (.tuple #[])∧∃ v',TrAt g s p v' w'∧HasV 2 w' v' cs.length (comV cs)∧v'.ownBlock=v.ownBlock∧w'.heap.size=w.heap.size∧Keep (fun k=>k≠g∧k≠kb) w w' ∧
   w'.heap[kb]?=some (.cells ((arr.setIfInBounds 10 (.bool true)).setIfInBounds 11 (.string ⟨c.1.toArray⟩)) 27 (0,0)):=by
 obtain ⟨ao,b,off,cap,rfl,hm,hcm,hown⟩:=hH
 have h0:0<cap:=by have:=hcm.le;simp at this;omega
 have hao:=hcm.addr h0
 subst hao
 have hcl:(c :: cs).length=cs.length+1:=rfl
 rw[hcl] at hcm hfew
 have HT:=Lib.hid (HasV.tail hm hcm rfl)
 have HB:=Lib.hid (hown b rfl)
 have g0:w.cell? ⟨b,off,none⟩=some (.string ⟨c.1.toArray⟩):=hcm.olds 0 _ rfl
 have hle:=hcm.le
 have hbg:b≠g:=fun e=>hap (by rw[e];rfl)
 have hbk:b≠kb:=fun e=>hkv (by rw[e];rfl)
 have hg:=hA.lt
 rw[hcl] at hA ⊢
 have hc:=hA.cell
 have hz:=hA.free
 have kz:∀ j,w.frozen? ⟨kb,j,none⟩=false:=fun j=>frozen_of_row w _ j _ _ hk
 have k10:w.cell? ⟨kb,10,none⟩=some (arr[10]'(by omega)):=by rw[cell_of_row w kb _ arr _ (0,0) hk,Array.getElem?_eq_getElem]
 have k11:w.cell? ⟨kb,11,none⟩=some (arr[11]'(by omega)):=by rw[cell_of_row w kb _ arr _ (0,0) hk,Array.getElem?_eq_getElem]
 generalize arr[10]'(by omega)=u10 at k10
 generalize arr[11]'(by omega)=u11 at k11
 generalize hX:(⟨c.1.toArray⟩:ByteArray)=X at g0 ⊢
 have hm1:(0:Int)<((cs.length:Nat):Int)+1:=by omega
 have HK:=Lib.hid (And.intro hk hA)
 clear hA hk hcm hX
 by_cases hcap:cap=1
 ·subst hcap
  have hcs:cs=[]:=List.eq_nil_of_length_eq_zero (by omega)
  subst hcs
  clear HT hle
  go_enter Tryz.func49,Tryz.ntmps49
  go_wp2
  go_end0
  obtain ⟨hk,hA⟩:=HK.out
  obtain ⟨z1,z2,z3,z4,z5⟩:=trail_at (X:=X) (cs:=[]) (v':=.slice (some ⟨b,off,none⟩) 0 0) hA hk hkg (HasV.spent w b off (HB.out)) hap hkv
  exact ⟨rfl,_,z1,z2,rfl,z3,z4,z5⟩
 ·go_enter Tryz.func49,Tryz.ntmps49
  go_wp2
  go_end0
  obtain ⟨hk,hA⟩:=HK.out
  obtain ⟨z1,z2,z3,z4,z5⟩:=trail_at (X:=X) (cs:=cs) (v':=.slice (some ⟨b,off+2,none⟩) cs.length (cap-1)) hA hk hkg HT.out hap hkv
  exact ⟨rfl,_,z1,z2,rfl,z3,z4,z5⟩
set_option maxRecDepth 100000 in
theorem trWhite_is (s:ByteArray) (p q:Nat) (w:World) (hs:s.size≤10000) (hw:WhN s p q) (hq:q≤s.size) (he:q<s.size→U.white (byt s q:Int)=false) :
  Calls Tryz.prog 36 #[.string s,.int .i64 (p:Int)] w fun e w'=>e=.returned (.int .i64 (q:Int))∧w'=w:=by
 obtain ⟨h1,h2⟩:=hw
 go_enter Tryz.func36,Tryz.ntmps36
 go_wp2
 go_loop [1] (fun v=>∃ k:Nat,v=.int .i64 (k:Int)∧p≤k∧k≤q) (fun v=>s.size-(intOf v).toNat)
 case atStart=>exact ⟨p,rfl,Nat.le_refl _,h1⟩
 case round=>
  obtain ⟨k,rfl,k1,k2⟩:=hrel
  by_cases hk:k<q
  ·have hw:=h2 k hk k1
   have hks:k<s.size:=by omega
   have hi:=run_byt s k hks _ rfl
   obtain ⟨b,hb⟩:∃ b:Nat,b=byt s k:=⟨_,rfl⟩
   rw[←hb] at hi hw
   have CW:=fun W=>White_is true (b:Int) W hw
   clear hw hb h2 he
   go_wp2_with fail
   refine (CW _).mono ?_
   rintro e w1 ⟨rfl,rfl⟩
   go_wp2
   go_round
   case rel=>exact ⟨k+1,by go_num,by omega,by omega⟩
   case measure=>simp[intOf];omega
  ·obtain rfl:k=q:=by omega
   by_cases hz:k<s.size
   ·have hw:=he hz
    have hi:=run_byt s k hz _ rfl
    obtain ⟨b,hb⟩:∃ b:Nat,b=byt s k:=⟨_,rfl⟩
    rw[←hb] at hi hw
    have CW:=fun W=>White_is false (b:Int) W hw
    clear hw hb h2 he
    go_wp2_with fail
    refine (CW _).mono ?_
    rintro e w1 ⟨rfl,rfl⟩
    go_wp2
    go_ret
    exact ⟨rfl,rfl⟩
   ·have:(s.size:Int)≤(k:Int):=by omega
    go_wp2
    go_ret
    exact ⟨rfl,rfl⟩
set_option maxRecDepth 100000 in
set_option maxHeartbeats 800000 in
theorem trMissing_is (g:Nat) (s:ByteArray) (p:Nat) (v:Value) (w:World) (b:Nat) (n:Int) (d:Nat) (h:TrAt g s p v w) (hs:s.size≤10000) (hp:p≤s.size) :
  Calls Tryz.prog 26 #[.pointer (some ⟨g,0,none⟩),.agg #[.int .i64 (b:Int),.int .i64 n,.int .i64 (d:Int)]] w fun e w'=>e=.returned (.bool (missP s b n p))∧Below w.heap.size w w':=by
 obtain ⟨W1,hW1⟩:∃ W1,W1=w.alloc (.cells #[.int .i64 (b:Int),.int .i64 n,.int .i64 (d:Int)] 55):=⟨_,rfl⟩
 have b1:Below w.heap.size w W1:=by rw[hW1];exact (Below.refl _ _).alloc (Nat.le_refl _) _
 have r1:W1.heap[w.heap.size]?=some (.cells #[.int .i64 (b:Int),.int .i64 n,.int .i64 (d:Int)] 55 (0,0)):=by rw[hW1];exact heap_alloc_new w _
 have q1:∀ k j,(W1.drewN k).cell? ⟨w.heap.size,j,none⟩=(#[.int .i64 (b:Int),.int .i64 n,.int .i64 (d:Int)]:Array Value)[j]?:=fun k j=>cell_of_row W1 _ j _ _ _ r1
 have h1:TrAt g s p v W1:=h.below b1 h.lt
 have C1:=trCol_is g s p v W1 h1 hs hp
 have C2:=fun k=>trOver_is g s p v (W1.drewN k) (overB s p) (h1.drewN k) hs hp rfl
 have C3:=fun k=>trMark_is g s p v (W1.drewN k) (markB s p 45) 45 (h1.drewN k) hs rfl
 have HW:=Lib.hid hW1
 have HB:=Lib.hid b1
 obtain ⟨c,hc⟩:∃ c,colF s p=c:=⟨_,rfl⟩
 unfold missP
 rw[hc] at C1 ⊢
 clear h h1 hW1 b1 r1 hc
 cases hov:overB s p with
 | true=>
  rw[hov] at C2
  rw[Bool.true_or]
  clear hov C3
  go_enter Tryz.func26,Tryz.ntmps26
  go_wp2_with fail
  rw[←HW.out]
  refine C1.mono ?_
  rintro e w2 ⟨rfl,k,rfl⟩
  go_wp2_with fail
  refine (C2 _).mono ?_
  rintro e w3 ⟨rfl,k2,rfl⟩
  go_wp2
  go_ret
  exact ⟨rfl,Go.below_drewN HB.out _⟩
 | false=>
  rw[hov] at C2
  rw[Bool.false_or]
  clear hov
  by_cases hcn:(c:Int)=n
  ·have e1:((c:Int)==n)=true:=by rw[beq_iff_eq];exact hcn
   cases hm:markB s p 45 with
   | true=>
    rw[hm] at C3
    rw[if_pos ⟨hcn,rfl⟩]
    have e2:((b:Int)==2)=decide (b=2):=by rw[Bool.eq_iff_iff,beq_iff_eq,decide_eq_true_eq];omega
    clear hm hcn
    go_enter Tryz.func26,Tryz.ntmps26
    go_wp2_with fail
    rw[←HW.out]
    refine C1.mono ?_
    rintro e w2 ⟨rfl,k,rfl⟩
    go_wp2_with fail
    refine (C2 _).mono ?_
    rintro e w3 ⟨rfl,k2,rfl⟩
    rw[World.drewN_drewN]
    go_wp2_with fail
    refine (C3 _).mono ?_
    rintro e w3 ⟨rfl,k3,rfl⟩
    rw[World.drewN_drewN]
    go_wp2
    go_ret
    exact ⟨by rw[←e2];rfl,Go.below_drewN HB.out _⟩
   | false=>
    rw[hm] at C3
    rw[if_neg (by rintro ⟨_,h⟩;cases h)]
    have e2:(decide ((c:Int)≤n))=true:=decide_eq_true (by omega)
    clear hm hcn
    go_enter Tryz.func26,Tryz.ntmps26
    go_wp2_with fail
    rw[←HW.out]
    refine C1.mono ?_
    rintro e w2 ⟨rfl,k,rfl⟩
    go_wp2_with fail
    refine (C2 _).mono ?_
    rintro e w3 ⟨rfl,k2,rfl⟩
    rw[World.drewN_drewN]
    go_wp2_with fail
    refine (C3 _).mono ?_
    rintro e w3 ⟨rfl,k3,rfl⟩
    rw[World.drewN_drewN]
    go_wp2
    go_ret
    exact ⟨by rw[e2];rfl,Go.below_drewN HB.out _⟩
  ·have e1:((c:Int)==n)=false:=by rw[beq_eq_false_iff_ne];exact hcn
   rw[if_neg (fun h=>hcn h.1)]
   clear hcn C3
   go_enter Tryz.func26,Tryz.ntmps26
   go_wp2_with fail
   rw[←HW.out]
   refine C1.mono ?_
   rintro e w2 ⟨rfl,k,rfl⟩
   go_wp2_with fail
   refine (C2 _).mono ?_
   rintro e w3 ⟨rfl,k2,rfl⟩
   rw[World.drewN_drewN]
   go_wp2
   go_ret
   exact ⟨rfl,Go.below_drewN HB.out _⟩
set_option maxRecDepth 100000 in
set_option maxHeartbeats 1600000 in
theorem trEmpty_is (g:Nat) (s:ByteArray) (p:Nat) (v:Value) (L:Coms) (w:World) (b:Nat) (n:Int) (d:Nat) (near:Bool) (h:TrAt g s p v w) (hH:HasV 2 w v L.length (comV L)) (hap:v.ownBlock≠some g) (hfew:L.length≤s.size) (hnear:near=true→L≠[]) (hs:s.size≤10000) :
  Calls Tryz.prog 27 #[.pointer (some ⟨g,0,none⟩),.agg #[.int .i64 (b:Int),.int .i64 n,.int .i64 (d:Int)],.bool near] w fun e w'=>∃ cs v' R,e=.returned (.agg cs.toArray)∧IsN R w' (emptyT (decide (b=3)) L near p).1 cs∧TrAt g s p v' w'∧HasV 2 w' v' (emptyT (decide (b=3)) L near p).2.1.length (comV (emptyT (decide (b=3)) L near p).2.1)∧v'.ownBlock=v.ownBlock∧(∀ k,R k→w.heap.size≤k∧k<w'.heap.size)∧Keep (fun k=>k<w.heap.size∧k≠g) w w':=by
 have hg:=h.lt
 have hown:=hH.own
 by_cases hb:near=true∧b≠3
 ·skip
  obtain ⟨rfl,hb3⟩:=hb
  obtain ⟨c,cs,rfl⟩:∃ c cs,L=c :: cs:=by
   cases L with
   | nil=>exact absurd rfl (hnear rfl)
   | cons c cs=>exact ⟨c,cs,rfl⟩
  have hem:emptyT (decide (b=3)) (c :: cs) true p=(voidN.withTrail c.1,cs,p):=by
   rw[decide_eq_false hb3];rfl
  rw[hem]
  have e1:((b:Int) != 3)=true:=by rw[bne,Bool.not_eq_eq_eq_not,Bool.not_true,beq_eq_false_iff_ne];omega
  clear hem hnear hb3
  obtain ⟨W1,hW1⟩:∃ W1,W1=(w.alloc (.cells #[.int .i64 (b:Int),.int .i64 n,.int .i64 (d:Int)] 55)).alloc (.cells #[.int .i64 0,.int .i64 0,.int .i64 0,.int .i64 0,.string ⟨#[]⟩,.string ⟨#[]⟩,.string ⟨#[]⟩,.slice none 0 0,.slice none 0 0,.slice none 0 0,.bool false,.string ⟨#[]⟩] 27):=⟨_,rfl⟩
  have u1:W1.heap.size=w.heap.size+2:=by rw[hW1];simp
  have b1:Below w.heap.size w W1:=by rw[hW1];exact ((Below.refl _ _).alloc (Nat.le_refl _) _).alloc (by simp) _
  have rp:W1.heap[w.heap.size]?=some (.cells #[.int .i64 (b:Int),.int .i64 n,.int .i64 (d:Int)] 55 (0,0)):=by rw[hW1];exact (heap_alloc_old _ _ (by simp)).trans (heap_alloc_new w _)
  have ra:W1.heap[w.heap.size+1]?=some (.cells #[.int .i64 0,.int .i64 0,.int .i64 0,.int .i64 0,.string ⟨#[]⟩,.string ⟨#[]⟩,.string ⟨#[]⟩,.slice none 0 0,.slice none 0 0,.slice none 0 0,.bool false,.string ⟨#[]⟩] 27 (0,0)):=by
   rw[hW1]
   have:=heap_alloc_new (w.alloc (.cells #[.int .i64 (b:Int),.int .i64 n,.int .i64 (d:Int)] 55)) (.cells #[.int .i64 0,.int .i64 0,.int .i64 0,.int .i64 0,.string ⟨#[]⟩,.string ⟨#[]⟩,.string ⟨#[]⟩,.slice none 0 0,.slice none 0 0,.slice none 0 0,.bool false,.string ⟨#[]⟩] 27)
   simpa using this
  have HW:=Lib.hid hW1
  have CE:∀ W,Calls Tryz.prog 48 #[] W fun e w'=>e=.returned (.agg #[.int .i64 1,.int .i64 1,.int .i64 (-1),.int .i64 0,.string ⟨#[]⟩,.string ⟨#[]⟩,.string ⟨#[]⟩,.slice none 0 0,.slice none 0 0,.slice none 0 0,.bool false,.string ⟨#[]⟩])∧Below W.heap.size W w':=fun W=>trBlank_is W
  clear hW1
  go_enter Tryz.func27,Tryz.ntmps27
  go_upto_region 1 with fail
  rw[←HW.out]
  go_upto_region 2 with (go_at_call 48;refine (CE _).mono ?_;rintro e w2 ⟨rfl,b2⟩)
  have sz2:=b2.size
  obtain ⟨w3,hw3⟩:∃ w3,w3=w2.alloc (.cells #[.int .i64 1,.int .i64 1,.int .i64 (-1),.int .i64 0,.string ⟨#[]⟩,.string ⟨#[]⟩,.string ⟨#[]⟩,.slice none 0 0,.slice none 0 0,.slice none 0 0,.bool false,.string ⟨#[]⟩] 27):=⟨_,rfl⟩
  have z3:w3.heap.size=w2.heap.size+1:=by rw[hw3];simp
  have b3:Below w2.heap.size w2 w3:=by rw[hw3];exact (Below.refl _ _).alloc (Nat.le_refl _) _
  have r3:w3.heap[w2.heap.size]?=some (.cells #[.int .i64 1,.int .i64 1,.int .i64 (-1),.int .i64 0,.string ⟨#[]⟩,.string ⟨#[]⟩,.string ⟨#[]⟩,.slice none 0 0,.slice none 0 0,.slice none 0 0,.bool false,.string ⟨#[]⟩] 27 (0,0)):=by rw[hw3];exact heap_alloc_new w2 _
  have rp3:=(b3.block w.heap.size (by omega)).trans ((b2.block w.heap.size (by omega)).trans rp)
  have ra3:=(b3.block (w.heap.size+1) (by omega)).trans ((b2.block (w.heap.size+1) (by omega)).trans ra)
  have b03:Below w.heap.size w w3:=b1.trans ((b2.mono (by omega)).trans (b3.mono (by omega)))
  rw[←hw3]
  clear hw3
  obtain ⟨nb,hnb⟩:∃ nb,nb=w2.heap.size:=⟨_,rfl⟩
  rw[←hnb] at r3 z3 ⊢
  have hgn:g≠nb:=by omega
  have han:w.heap.size+1<nb:=by omega
  have HNB:=Lib.hid hnb
  clear hnb
  have h3:=h.below b03 hg
  have hH3:=hH.below b03 (Nat.le_refl _)
  have qp3:∀ j,w3.cell? ⟨w.heap.size,j,none⟩=(#[.int .i64 (b:Int),.int .i64 n,.int .i64 (d:Int)]:Array Value)[j]?:=fun j=>cell_of_row w3 _ j _ _ _ rp3
  have q3:∀ j,w3.cell? ⟨nb,j,none⟩=(#[.int .i64 1,.int .i64 1,.int .i64 (-1),.int .i64 0,.string ⟨#[]⟩,.string ⟨#[]⟩,.string ⟨#[]⟩,.slice none 0 0,.slice none 0 0,.slice none 0 0,.bool false,.string ⟨#[]⟩]:Array Value)[j]?:=fun j=>cell_of_row w3 _ j _ _ _ r3
  have qa3:∀ j,w3.cell? ⟨w.heap.size+1,j,none⟩=(#[.int .i64 0,.int .i64 0,.int .i64 0,.int .i64 0,.string ⟨#[]⟩,.string ⟨#[]⟩,.string ⟨#[]⟩,.slice none 0 0,.slice none 0 0,.slice none 0 0,.bool false,.string ⟨#[]⟩]:Array Value)[j]?:=fun j=>cell_of_row w3 _ j _ _ _ ra3
  have fa3:∀ j,w3.frozen? ⟨w.heap.size+1,j,none⟩=false:=fun j=>frozen_of_row w3 _ j _ _ ra3
  have hkv:v.ownBlock≠some nb:=fun e=>by have:=hown _ e;omega
  have CT:=trTrail_is g s p v nb _ c cs w3 h3 hH3 r3 (by decide) (fun e=>hgn e.symm) hkv hap (by omega)
  go_wp2_with fail
  refine CT.mono ?_
  rintro e w4 ⟨rfl,v',t1,t2,t3,t4,t5,t6⟩
  clear CT
  have ra4:=(t5.block (w.heap.size+1) ⟨by omega,by omega⟩).trans ra3
  have rn4:w4.heap[nb]?=some (.cells #[.int .i64 1,.int .i64 1,.int .i64 (-1),.int .i64 0,.string ⟨#[]⟩,.string ⟨#[]⟩,.string ⟨#[]⟩,.slice none 0 0,.slice none 0 0,.slice none 0 0,.bool true,.string ⟨c.1.toArray⟩] 27 (0,0)):=t6
  have q4:∀ j,w4.cell? ⟨nb,j,none⟩=(#[.int .i64 1,.int .i64 1,.int .i64 (-1),.int .i64 0,.string ⟨#[]⟩,.string ⟨#[]⟩,.string ⟨#[]⟩,.slice none 0 0,.slice none 0 0,.slice none 0 0,.bool true,.string ⟨c.1.toArray⟩]:Array Value)[j]?:=fun j=>cell_of_row w4 _ j _ _ _ rn4
  have qa4:∀ j,w4.cell? ⟨w.heap.size+1,j,none⟩=(#[.int .i64 0,.int .i64 0,.int .i64 0,.int .i64 0,.string ⟨#[]⟩,.string ⟨#[]⟩,.string ⟨#[]⟩,.slice none 0 0,.slice none 0 0,.slice none 0 0,.bool false,.string ⟨#[]⟩]:Array Value)[j]?:=fun j=>cell_of_row w4 _ j _ _ _ ra4
  have fa4:∀ j,w4.frozen? ⟨w.heap.size+1,j,none⟩=false:=fun j=>frozen_of_row w4 _ j _ _ ra4
  have HT2:=Lib.hid t2
  clear t2 t6 rn4 qp3 q3 qa3 fa3
  go_wp2
  obtain ⟨w12,hw12⟩:∃ w12,w12=((((((((((((w4.setCell ⟨w.heap.size+1,0,none⟩ (.int .i64 1)).setCell ⟨w.heap.size+1,1,none⟩ (.int .i64 1)).setCell ⟨w.heap.size+1,2,none⟩ (.int .i64 (-1))).setCell ⟨w.heap.size+1,3,none⟩ (.int .i64 0)).setCell ⟨w.heap.size+1,4,none⟩ (.string ⟨#[]⟩)).setCell ⟨w.heap.size+1,5,none⟩ (.string ⟨#[]⟩)).setCell ⟨w.heap.size+1,6,none⟩ (.string ⟨#[]⟩)).setCell ⟨w.heap.size+1,7,none⟩ (.slice none 0 0)).setCell ⟨w.heap.size+1,8,none⟩ (.slice none 0 0)).setCell ⟨w.heap.size+1,9,none⟩ (.slice none 0 0)).setCell ⟨w.heap.size+1,10,none⟩ (.bool true)).setCell ⟨w.heap.size+1,11,none⟩ (.string ⟨c.1.toArray⟩)):=⟨_,rfl⟩
  have r12:w12.heap[w.heap.size+1]?=some (.cells #[.int .i64 1,.int .i64 1,.int .i64 (-1),.int .i64 0,.string ⟨#[]⟩,.string ⟨#[]⟩,.string ⟨#[]⟩,.slice none 0 0,.slice none 0 0,.slice none 0 0,.bool true,.string ⟨c.1.toArray⟩] 27 (0,0)):=by rw[hw12];exact row12_set w4 (hg:=ra4) ..
  have b12:Below (w.heap.size+1) w4 w12:=by rw[hw12];exact row12_below w4 _ _ (Nat.le_refl _) _ _ _ _ _ _ _ _ _ _ _ _
  have z12:w12.heap.size=w4.heap.size:=by rw[hw12,row12_size]
  have s12:∀ k,¬ k=w.heap.size+1→w12.heap[k]?=w4.heap[k]?:=fun k hk=>by rw[hw12];exact row12_other w4 _ k hk ..
  rw[←hw12]
  clear hw12
  have hcz:∀ j,w12.cell? ⟨w.heap.size+1,j,none⟩=(#[.int .i64 1,.int .i64 1,.int .i64 (-1),.int .i64 0,.string ⟨#[]⟩,.string ⟨#[]⟩,.string ⟨#[]⟩,.slice none 0 0,.slice none 0 0,.slice none 0 0,.bool true,.string ⟨c.1.toArray⟩]:Array Value)[j]?:=fun j=>cell_of_row w12 _ j _ _ _ r12
  refine bodyPost_ret (v:=.agg #[.int .i64 1,.int .i64 1,.int .i64 (-1),.int .i64 0,.string ⟨#[]⟩,.string ⟨#[]⟩,.string ⟨#[]⟩,.slice none 0 0,.slice none 0 0,.slice none 0 0,.bool true,.string ⟨c.1.toArray⟩]) (by simp[results,Tryz.results27,go_sem,hcz]) rfl ?_
  exact ⟨_,v',fun _=>False,rfl,IsN.shut (ComsR.nil _ _) (ComsR.nil _ _) (NodesR.nil _ _),(s12 g (by omega)).trans t1,HT2.out.keep (fun k hk _=>s12 k (by rw[t3] at hk;have:=hown k hk;omega)),t3,fun _ h=>h.elim,((Keep.of b03 (fun _ hk=>hk.1)).trans (Q:=fun k=>k<w.heap.size∧k≠g) ⟨t5.os,t5.tape,t5.output,t5.size,fun k hk=>t5.block k ⟨hk.2,by omega⟩⟩ (fun _ hk=>hk)).trans (Q:=fun k=>k<w.heap.size) ⟨b12.os,b12.tape,b12.output,by omega,fun k hk=>b12.block k (by omega)⟩ (fun _ hk=>hk.1)⟩
 ·have hem:emptyT (decide (b=3)) L near p=(voidN,L,p):=by
   unfold emptyT
   cases L with
   | nil=>rfl
   | cons c cs=>
    cases near with
    | false=>rfl
    | true=>
     have:b=3:=Decidable.not_not.1 fun e=>hb ⟨rfl,e⟩
     rw[decide_eq_true this]
  rw[hem]
  obtain ⟨W1,hW1⟩:∃ W1,W1=(w.alloc (.cells #[.int .i64 (b:Int),.int .i64 n,.int .i64 (d:Int)] 55)).alloc (.cells #[.int .i64 0,.int .i64 0,.int .i64 0,.int .i64 0,.string ⟨#[]⟩,.string ⟨#[]⟩,.string ⟨#[]⟩,.slice none 0 0,.slice none 0 0,.slice none 0 0,.bool false,.string ⟨#[]⟩] 27):=⟨_,rfl⟩
  have u1:W1.heap.size=w.heap.size+2:=by rw[hW1];simp
  have b1:Below w.heap.size w W1:=by rw[hW1];exact ((Below.refl _ _).alloc (Nat.le_refl _) _).alloc (by simp) _
  have rp:W1.heap[w.heap.size]?=some (.cells #[.int .i64 (b:Int),.int .i64 n,.int .i64 (d:Int)] 55 (0,0)):=by rw[hW1];exact (heap_alloc_old _ _ (by simp)).trans (heap_alloc_new w _)
  have ra:W1.heap[w.heap.size+1]?=some (.cells #[.int .i64 0,.int .i64 0,.int .i64 0,.int .i64 0,.string ⟨#[]⟩,.string ⟨#[]⟩,.string ⟨#[]⟩,.slice none 0 0,.slice none 0 0,.slice none 0 0,.bool false,.string ⟨#[]⟩] 27 (0,0)):=by
   rw[hW1]
   have:=heap_alloc_new (w.alloc (.cells #[.int .i64 (b:Int),.int .i64 n,.int .i64 (d:Int)] 55)) (.cells #[.int .i64 0,.int .i64 0,.int .i64 0,.int .i64 0,.string ⟨#[]⟩,.string ⟨#[]⟩,.string ⟨#[]⟩,.slice none 0 0,.slice none 0 0,.slice none 0 0,.bool false,.string ⟨#[]⟩] 27)
   simpa using this
  have HW:=Lib.hid hW1
  have CE:∀ W,Calls Tryz.prog 48 #[] W fun e w'=>e=.returned (.agg #[.int .i64 1,.int .i64 1,.int .i64 (-1),.int .i64 0,.string ⟨#[]⟩,.string ⟨#[]⟩,.string ⟨#[]⟩,.slice none 0 0,.slice none 0 0,.slice none 0 0,.bool false,.string ⟨#[]⟩])∧Below W.heap.size W w':=fun W=>trBlank_is W
  clear hW1
  have e1:near=false∨(near=true∧((b:Int) != 3)=false):=by
   cases near with
   | false=>exact .inl rfl
   | true=>exact .inr ⟨rfl,by rw[bne,Bool.not_eq_false',beq_iff_eq];have:b=3:=Decidable.not_not.1 fun e=>hb ⟨rfl,e⟩;omega⟩
  clear hb hem hnear
  rcases e1 with rfl|⟨rfl,e1⟩
  all_goals
   go_enter Tryz.func27,Tryz.ntmps27
   go_upto_region 1 with fail
   rw[←HW.out]
   go_upto_region 2 with (go_at_call 48;refine (CE _).mono ?_;rintro e w2 ⟨rfl,b2⟩)
   have sz2:=b2.size
   obtain ⟨w3,hw3⟩:∃ w3,w3=w2.alloc (.cells #[.int .i64 1,.int .i64 1,.int .i64 (-1),.int .i64 0,.string ⟨#[]⟩,.string ⟨#[]⟩,.string ⟨#[]⟩,.slice none 0 0,.slice none 0 0,.slice none 0 0,.bool false,.string ⟨#[]⟩] 27):=⟨_,rfl⟩
   have z3:w3.heap.size=w2.heap.size+1:=by rw[hw3];simp
   have b3:Below w2.heap.size w2 w3:=by rw[hw3];exact (Below.refl _ _).alloc (Nat.le_refl _) _
   have r3:w3.heap[w2.heap.size]?=some (.cells #[.int .i64 1,.int .i64 1,.int .i64 (-1),.int .i64 0,.string ⟨#[]⟩,.string ⟨#[]⟩,.string ⟨#[]⟩,.slice none 0 0,.slice none 0 0,.slice none 0 0,.bool false,.string ⟨#[]⟩] 27 (0,0)):=by rw[hw3];exact heap_alloc_new w2 _
   have rp3:=(b3.block w.heap.size (by omega)).trans ((b2.block w.heap.size (by omega)).trans rp)
   have ra3:=(b3.block (w.heap.size+1) (by omega)).trans ((b2.block (w.heap.size+1) (by omega)).trans ra)
   have b03:Below w.heap.size w w3:=b1.trans ((b2.mono (by omega)).trans (b3.mono (by omega)))
   rw[←hw3]
   clear hw3
   obtain ⟨nb,hnb⟩:∃ nb,nb=w2.heap.size:=⟨_,rfl⟩
   rw[←hnb] at r3 z3 ⊢
   have hgn:g≠nb:=by omega
   have han:w.heap.size+1<nb:=by omega
   have HNB:=Lib.hid hnb
   clear hnb
   have h3:=h.below b03 hg
   have hH3:=hH.below b03 (Nat.le_refl _)
   have qp3:∀ j,w3.cell? ⟨w.heap.size,j,none⟩=(#[.int .i64 (b:Int),.int .i64 n,.int .i64 (d:Int)]:Array Value)[j]?:=fun j=>cell_of_row w3 _ j _ _ _ rp3
   have q3:∀ j,w3.cell? ⟨nb,j,none⟩=(#[.int .i64 1,.int .i64 1,.int .i64 (-1),.int .i64 0,.string ⟨#[]⟩,.string ⟨#[]⟩,.string ⟨#[]⟩,.slice none 0 0,.slice none 0 0,.slice none 0 0,.bool false,.string ⟨#[]⟩]:Array Value)[j]?:=fun j=>cell_of_row w3 _ j _ _ _ r3
   have qa3:∀ j,w3.cell? ⟨w.heap.size+1,j,none⟩=(#[.int .i64 0,.int .i64 0,.int .i64 0,.int .i64 0,.string ⟨#[]⟩,.string ⟨#[]⟩,.string ⟨#[]⟩,.slice none 0 0,.slice none 0 0,.slice none 0 0,.bool false,.string ⟨#[]⟩]:Array Value)[j]?:=fun j=>cell_of_row w3 _ j _ _ _ ra3
   have fa3:∀ j,w3.frozen? ⟨w.heap.size+1,j,none⟩=false:=fun j=>frozen_of_row w3 _ j _ _ ra3
   go_wp2
   obtain ⟨w12,hw12⟩:∃ w12,w12=((((((((((((w3.setCell ⟨w.heap.size+1,0,none⟩ (.int .i64 1)).setCell ⟨w.heap.size+1,1,none⟩ (.int .i64 1)).setCell ⟨w.heap.size+1,2,none⟩ (.int .i64 (-1))).setCell ⟨w.heap.size+1,3,none⟩ (.int .i64 0)).setCell ⟨w.heap.size+1,4,none⟩ (.string ⟨#[]⟩)).setCell ⟨w.heap.size+1,5,none⟩ (.string ⟨#[]⟩)).setCell ⟨w.heap.size+1,6,none⟩ (.string ⟨#[]⟩)).setCell ⟨w.heap.size+1,7,none⟩ (.slice none 0 0)).setCell ⟨w.heap.size+1,8,none⟩ (.slice none 0 0)).setCell ⟨w.heap.size+1,9,none⟩ (.slice none 0 0)).setCell ⟨w.heap.size+1,10,none⟩ (.bool false)).setCell ⟨w.heap.size+1,11,none⟩ (.string ⟨#[]⟩)):=⟨_,rfl⟩
   have r12:w12.heap[w.heap.size+1]?=some (.cells #[.int .i64 1,.int .i64 1,.int .i64 (-1),.int .i64 0,.string ⟨#[]⟩,.string ⟨#[]⟩,.string ⟨#[]⟩,.slice none 0 0,.slice none 0 0,.slice none 0 0,.bool false,.string ⟨#[]⟩] 27 (0,0)):=by rw[hw12];exact row12_set w3 (hg:=ra3) ..
   have b12:Below (w.heap.size+1) w3 w12:=by rw[hw12];exact row12_below w3 _ _ (Nat.le_refl _) _ _ _ _ _ _ _ _ _ _ _ _
   have z12:w12.heap.size=w3.heap.size:=by rw[hw12,row12_size]
   have s12:∀ k,¬ k=w.heap.size+1→w12.heap[k]?=w3.heap[k]?:=fun k hk=>by rw[hw12];exact row12_other w3 _ k hk ..
   rw[←hw12]
   clear hw12
   have hcz:∀ j,w12.cell? ⟨w.heap.size+1,j,none⟩=(#[.int .i64 1,.int .i64 1,.int .i64 (-1),.int .i64 0,.string ⟨#[]⟩,.string ⟨#[]⟩,.string ⟨#[]⟩,.slice none 0 0,.slice none 0 0,.slice none 0 0,.bool false,.string ⟨#[]⟩]:Array Value)[j]?:=fun j=>cell_of_row w12 _ j _ _ _ r12
   refine bodyPost_ret (v:=.agg #[.int .i64 1,.int .i64 1,.int .i64 (-1),.int .i64 0,.string ⟨#[]⟩,.string ⟨#[]⟩,.string ⟨#[]⟩,.slice none 0 0,.slice none 0 0,.slice none 0 0,.bool false,.string ⟨#[]⟩]) (by simp[results,Tryz.results27,go_sem,hcz]) rfl ?_
   exact ⟨_,v,fun _=>False,rfl,IsN.shut (ComsR.nil _ _) (ComsR.nil _ _) (NodesR.nil _ _),(s12 g (by omega)).trans h3,hH3.keep (fun k hk _=>s12 k (by have:=hown k hk;omega)),rfl,fun _ h=>h.elim,(Keep.of b03 (fun _ hk=>hk.1)).trans (Q:=fun k=>k<w.heap.size) ⟨b12.os,b12.tape,b12.output,by omega,fun k hk=>b12.block k (by omega)⟩ (fun _ hk=>hk.1)⟩
end Go.Proofs.YthcmkpiajkbpnaaGreatDoor
