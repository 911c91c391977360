/- Parts of the proof, put together from smaller texts (blanks that Lean does not want are struck). Conditions: those that each theorem writes out. -/
import Derived.Test.YtncngeamdechmaaGreatDoorZ26
namespace Go.Proofs.YtncngeamdechmaaGreatDoor
open Go.RowKit
theorem bytes_eta (x:ByteArray):(⟨x.data.toList.toArray⟩:ByteArray)=x:=by cases x;simp
theorem flColon_x (r:Bool) (g:Nat) (s:ByteArray) (n:Int) (p:Nat) (e0:Int) (v:Value) (nr:Bool) (k0 k1 k2 k3:Int) (k4 k5 k6:ByteArray) (xa:Option Addr) (xb xc:Nat) (ya:Option Addr) (yb yc:Nat) (za:Option Addr) (zb zc:Nat) (k7:Bool) (k8:ByteArray) (w:World) (h:FlAt g s n (p:Int) e0 v nr w) (hs:s.size≤1000000) (hr:signB s p (decide (k0=3∨k0=4∨k1=2∨k1=3))=r) :
  Calls Tryz.prog 25 #[.pointer (some ⟨g,0,none⟩),.agg #[.int .i64 k0,.int .i64 k1,.int .i64 k2,.int .i64 k3,.string k4,.string k5,.string k6,.slice xa xb xc,.slice ya yb yc,.slice za zb zc,.bool k7,.string k8]] w fun e w'=>e=.returned (.bool r)∧Below w.heap.size w w':=by
 have:=flColon_is r g s n p e0 v nr ⟨k0,k1,k2,k3,k4.data.toList,k5.data.toList,k6.data.toList,[],[],k7,k8.data.toList⟩ (.slice xa xb xc) (.slice ya yb yc) (.slice za zb zc) w h hs ⟨_,_,_,rfl⟩ ⟨_,_,_,rfl⟩ ⟨_,_,_,rfl⟩ hr
 unfold headC at this
 simp only[bytes_eta] at this
 exact this
theorem IsN.cellsK {R:Nat→Prop} {w:World} {x:NT} {cs:List Value} (h:IsN R w x cs):∃ (i0 i1 i2 i3:Int) (s4 s5 s6:ByteArray) (ak:Option Addr) (nk ck:Nat) (al:Option Addr) (nl cl:Nat) (af:Option Addr) (nf cf:Nat) (b10:Bool) (s11:ByteArray),
  cs=[.int .i64 i0,.int .i64 i1,.int .i64 i2,.int .i64 i3,.string s4,.string s5,.string s6,.slice ak nk ck,.slice al nl cl,.slice af nf cf,.bool b10,.string s11]∧nearN x=decide (i0=3∨i0=4∨i1=2∨i1=3)∧ComsR R w (.slice al nl cl) x.h.lead∧nl=x.h.lead.length:=by
 obtain ⟨kv,lv,fv,rfl,⟨ao,cap,rfl,hl⟩,⟨ao2,cap2,rfl,_⟩,⟨ao3,cap3,rfl,_⟩⟩:=h.open
 exact ⟨_,_,_,_,_,_,_,_,_,_,_,_,_,_,_,_,_,_,rfl,rfl,⟨_,_,rfl,hl⟩,rfl⟩
theorem lead_Mb {g:Nat} {s:ByteArray} {n:Int} {w w12:World} {v v1 v5:Value} {o:Rd (NT × Rst)} {cs:List Value} {c:Int} {x:NT} {r1:Rst} {R:Nat→Prop} {l:Coms} (hN:IsN R w12 x cs) (hst:RSb g s n r1 v1 w12) (hwf:∀ y,o=.ok y→WFr s r1) (h5:HasV 2 w12 v5 l.length (comV l))
  (hR:∀ k,R k→k<w12.heap.size∧k≠g∧v1.ownBlock≠some k∧w.heap.size≤k) (hv5:∀ k,v5.ownBlock=some k→k≠g∧v1.ownBlock≠some k∧(w.heap.size≤k∨v.ownBlock=some k)) (hv1:NewV w.heap.size [v] v1) (hK:Keep (Lv w.heap.size g [v]) w w12) (hres:ResN o c (x.withLead l) r1) :
  NodeM g s n w [v] o (cs.set 8 v5) c w12 (x.withLead l) r1 v1 (fun k=>R k∨v5.ownBlock=some k):=by
 refine ⟨?_,hst,fun k hk=>?_,fun k hk=>?_,fun k hk=>?_,hv1,hK,(fun e=>by cases e),hres,hwf⟩
 ·obtain ⟨kv,lv,fv,rfl,g1,g2,g3⟩:=hN.open
  exact IsN.shut (h5.toComs.frame fun b hb=>⟨.inr hb,rfl⟩) (g2.frame fun b hb=>⟨.inl hb,rfl⟩) (g3.frame fun b hb=>⟨.inl hb,rfl⟩)
 ·rcases hk with hk|hk
  ·exact (hR k hk).1
  ·exact h5.own k hk
 ·rcases hk with hk|hk
  ·exact ⟨(hR k hk).2.1,(hR k hk).2.2.1⟩
  ·exact ⟨(hv5 k hk).1,(hv5 k hk).2.1⟩
 ·rcases hk with hk|hk
  ·exact .inl (hR k hk).2.2.2
  ·rcases (hv5 k hk).2.2 with h1|h1
   ·exact .inl h1
   ·exact .inr ⟨v,by simp,h1⟩
theorem lead_M {g:Nat} {s:ByteArray} {n:Int} {w w12:World} {v v1 v5:Value} {o:Rd (NT × Rst)} {cs:List Value} {c:Int} {x:NT} {r1:Rst} {R:Nat→Prop} {l:Coms} (hN:IsN R w12 x cs) (hst:RS g s n r1 v1 w12) (h5:HasV 2 w12 v5 l.length (comV l))
  (hR:∀ k,R k→k<w12.heap.size∧k≠g∧v1.ownBlock≠some k∧w.heap.size≤k) (hv5:∀ k,v5.ownBlock=some k→k≠g∧v1.ownBlock≠some k∧(w.heap.size≤k∨v.ownBlock=some k)) (hv1:NewV w.heap.size [v] v1) (hK:Keep (Lv w.heap.size g [v]) w w12) (hres:ResN o c (x.withLead l) r1) :
  NodeM g s n w [v] o (cs.set 8 v5) c w12 (x.withLead l) r1 v1 (fun k=>R k∨v5.ownBlock=some k):=
 lead_Mb hN hst.b (fun _ _=>hst.ok) h5 hR hv5 hv1 hK hres
set_option maxRecDepth 100000 in
set_option maxHeartbeats 3200000 in
theorem flValue_none (g:Nat) (s:ByteArray) (hs:s.size≤10000) (n:Int) (deep:Nat) (r:Rst) (v:Value) (k0 k1 k2 k3:Int) (k4 k5 k6:ByteArray) (xa:Option Addr) (xb xc:Nat) (ya:Option Addr) (yb yc:Nat) (za:Option Addr) (zb zc:Nat) (k7:Bool) (k8:ByteArray) (o:Rd (NT × Rst)) (w:World) (h:RS g s n r v w) (hsg:signB s r.at' (decide (k0=3∨k0=4∨k1=2∨k1=3))=false) (ho:o=.ok (voidN,r)) :
  Calls Tryz.prog 29 #[.pointer (some ⟨g,0,none⟩),.agg #[.int .i64 k0,.int .i64 k1,.int .i64 k2,.int .i64 k3,.string k4,.string k5,.string k6,.slice xa xb xc,.slice ya yb yc,.slice za zb zc,.bool k7,.string k8],.int .i64 (deep:Int)] w fun e w'=>NodePost g s n w [v] o e w':=by
 subst ho
 have hg:=h.cells.lt
 obtain ⟨W1,hW1⟩:∃ W1,W1=(w.alloc (.cells #[.int .i64 k0,.int .i64 k1,.int .i64 k2,.int .i64 k3,.string k4,.string k5,.string k6,.slice xa xb xc,.slice ya yb yc,.slice za zb zc,.bool k7,.string k8] 30)).alloc (.cells #[.int .i64 0,.int .i64 0,.int .i64 0,.int .i64 0,.string ⟨#[]⟩,.string ⟨#[]⟩,.string ⟨#[]⟩,.slice none 0 0,.slice none 0 0,.slice none 0 0,.bool false,.string ⟨#[]⟩] 30):=⟨_,rfl⟩
 have u1:W1.heap.size=w.heap.size+2:=by rw[hW1];simp
 have b1:Below w.heap.size w W1:=by rw[hW1];exact ((Below.refl _ _).alloc (Nat.le_refl _) _).alloc (by simp) _
 have rk:W1.heap[w.heap.size]?=some (.cells #[.int .i64 k0,.int .i64 k1,.int .i64 k2,.int .i64 k3,.string k4,.string k5,.string k6,.slice xa xb xc,.slice ya yb yc,.slice za zb zc,.bool k7,.string k8] 30 (0,0)):=by rw[hW1];exact (heap_alloc_old _ _ (by simp)).trans (heap_alloc_new w _)
 have ra:W1.heap[w.heap.size+1]?=some (.cells #[.int .i64 0,.int .i64 0,.int .i64 0,.int .i64 0,.string ⟨#[]⟩,.string ⟨#[]⟩,.string ⟨#[]⟩,.slice none 0 0,.slice none 0 0,.slice none 0 0,.bool false,.string ⟨#[]⟩] 30 (0,0)):=by
  rw[hW1]
  have:=heap_alloc_new (w.alloc (.cells #[.int .i64 k0,.int .i64 k1,.int .i64 k2,.int .i64 k3,.string k4,.string k5,.string k6,.slice xa xb xc,.slice ya yb yc,.slice za zb zc,.bool k7,.string k8] 30)) (.cells #[.int .i64 0,.int .i64 0,.int .i64 0,.int .i64 0,.string ⟨#[]⟩,.string ⟨#[]⟩,.string ⟨#[]⟩,.slice none 0 0,.slice none 0 0,.slice none 0 0,.bool false,.string ⟨#[]⟩] 30)
  simpa using this
 have R1:=h.below b1 (Nat.le_refl _)
 have HW:=Lib.hid hW1
 have CE:∀ W,Calls Tryz.prog 30 #[] W fun e w'=>e=.returned (.agg #[.int .i64 1,.int .i64 1,.int .i64 (-1),.int .i64 0,.string ⟨#[]⟩,.string ⟨#[]⟩,.string ⟨#[]⟩,.slice none 0 0,.slice none 0 0,.slice none 0 0,.bool false,.string ⟨#[]⟩])∧Below W.heap.size W w':=fun W=>flEmpty_is W
 clear hW1
 go_enter Tryz.func29,Tryz.ntmps29
 go_upto_region 1 with fail
 rw[←HW.out]
 go_upto_region 2 with (go_at_call 30;refine (CE _).mono ?_;rintro e w2 ⟨rfl,b2⟩)
 have sz2:=b2.size
 obtain ⟨w3,hw3⟩:∃ w3,w3=w2.alloc (.cells #[.int .i64 1,.int .i64 1,.int .i64 (-1),.int .i64 0,.string ⟨#[]⟩,.string ⟨#[]⟩,.string ⟨#[]⟩,.slice none 0 0,.slice none 0 0,.slice none 0 0,.bool false,.string ⟨#[]⟩] 30):=⟨_,rfl⟩
 have z3:w3.heap.size=w2.heap.size+1:=by rw[hw3];simp
 have b3:Below w2.heap.size w2 w3:=by rw[hw3];exact (Below.refl _ _).alloc (Nat.le_refl _) _
 have r3:w3.heap[w2.heap.size]?=some (.cells #[.int .i64 1,.int .i64 1,.int .i64 (-1),.int .i64 0,.string ⟨#[]⟩,.string ⟨#[]⟩,.string ⟨#[]⟩,.slice none 0 0,.slice none 0 0,.slice none 0 0,.bool false,.string ⟨#[]⟩] 30 (0,0)):=by rw[hw3];exact heap_alloc_new w2 _
 have R3:=(R1.below b2 (Nat.le_refl _)).below b3 (Nat.le_refl _)
 have rk3:=(b3.block w.heap.size (by omega)).trans ((b2.block w.heap.size (by omega)).trans rk)
 have ra3:=(b3.block (w.heap.size+1) (by omega)).trans ((b2.block (w.heap.size+1) (by omega)).trans ra)
 have b03:Below w.heap.size w w3:=b1.trans ((b2.mono (by omega)).trans (b3.mono (by omega)))
 rw[←hw3]
 clear hw3
 obtain ⟨nb,hnb⟩:∃ nb,nb=w2.heap.size:=⟨_,rfl⟩
 rw[←hnb] at r3 z3 ⊢
 have hgn:g≠nb:=by omega
 have han:w.heap.size+1<nb:=by omega
 have HNB:=Lib.hid hnb
 clear hnb b1 b2 b3 rk ra R1 CE
 have qk3:∀ j,w3.cell? ⟨w.heap.size,j,none⟩=(#[.int .i64 k0,.int .i64 k1,.int .i64 k2,.int .i64 k3,.string k4,.string k5,.string k6,.slice xa xb xc,.slice ya yb yc,.slice za zb zc,.bool k7,.string k8]:Array Value)[j]?:=fun j=>cell_of_row w3 _ j _ _ _ rk3
 have CL:=flColon_x false g s n r.at' (r.fin:Int) v r.same k0 k1 k2 k3 k4 k5 k6 xa xb xc ya yb yc za zb zc k7 k8 w3 R3.cells (by omega) hsg
 go_wp2_with fail
 refine CL.mono ?_
 rintro e w4 ⟨rfl,b4⟩
 have sz4:=b4.size
 have R4:=R3.below b4 (Nat.le_refl _)
 have r4:=(b4.block nb (by omega)).trans r3
 have ra4:=(b4.block (w.heap.size+1) (by omega)).trans ra3
 have b04:=b03.trans (b4.mono (by omega))
 clear CL R3 r3 ra3 rk3 qk3 b03 b4
 have q4:∀ j,w4.cell? ⟨nb,j,none⟩=(#[.int .i64 1,.int .i64 1,.int .i64 (-1),.int .i64 0,.string ⟨#[]⟩,.string ⟨#[]⟩,.string ⟨#[]⟩,.slice none 0 0,.slice none 0 0,.slice none 0 0,.bool false,.string ⟨#[]⟩]:Array Value)[j]?:=fun j=>cell_of_row w4 _ j _ _ _ r4
 have qa4:∀ j,w4.cell? ⟨w.heap.size+1,j,none⟩=(#[.int .i64 0,.int .i64 0,.int .i64 0,.int .i64 0,.string ⟨#[]⟩,.string ⟨#[]⟩,.string ⟨#[]⟩,.slice none 0 0,.slice none 0 0,.slice none 0 0,.bool false,.string ⟨#[]⟩]:Array Value)[j]?:=fun j=>cell_of_row w4 _ j _ _ _ ra4
 have fa4:∀ j,w4.frozen? ⟨w.heap.size+1,j,none⟩=false:=fun j=>frozen_of_row w4 _ j _ _ ra4
 have HR:=Lib.hid R4
 clear R4
 go_wp2
 obtain ⟨w12,hw12⟩:∃ w12,w12=((((((((((((w4.setCell ⟨w.heap.size+1,0,none⟩ (.int .i64 1)).setCell ⟨w.heap.size+1,1,none⟩ (.int .i64 1)).setCell ⟨w.heap.size+1,2,none⟩ (.int .i64 (-1))).setCell ⟨w.heap.size+1,3,none⟩ (.int .i64 0)).setCell ⟨w.heap.size+1,4,none⟩ (.string ⟨#[]⟩)).setCell ⟨w.heap.size+1,5,none⟩ (.string ⟨#[]⟩)).setCell ⟨w.heap.size+1,6,none⟩ (.string ⟨#[]⟩)).setCell ⟨w.heap.size+1,7,none⟩ (.slice none 0 0)).setCell ⟨w.heap.size+1,8,none⟩ (.slice none 0 0)).setCell ⟨w.heap.size+1,9,none⟩ (.slice none 0 0)).setCell ⟨w.heap.size+1,10,none⟩ (.bool false)).setCell ⟨w.heap.size+1,11,none⟩ (.string ⟨#[]⟩)):=⟨_,rfl⟩
 have r12:w12.heap[w.heap.size+1]?=some (.cells #[.int .i64 1,.int .i64 1,.int .i64 (-1),.int .i64 0,.string ⟨#[]⟩,.string ⟨#[]⟩,.string ⟨#[]⟩,.slice none 0 0,.slice none 0 0,.slice none 0 0,.bool false,.string ⟨#[]⟩] 30 (0,0)):=by rw[hw12];exact row12_set w4 (hg:=ra4) ..
 have b12:Below (w.heap.size+1) w4 w12:=by rw[hw12];exact row12_below w4 _ _ (Nat.le_refl _) _ _ _ _ _ _ _ _ _ _ _ _
 have z12:w12.heap.size=w4.heap.size:=by rw[hw12,row12_size]
 have s12:∀ k,¬ k=w.heap.size+1→w12.heap[k]?=w4.heap[k]?:=fun k hk=>by rw[hw12];exact row12_other w4 _ k hk ..
 rw[←hw12]
 clear hw12
 have hcz:∀ j,w12.cell? ⟨w.heap.size+1,j,none⟩=(#[.int .i64 1,.int .i64 1,.int .i64 (-1),.int .i64 0,.string ⟨#[]⟩,.string ⟨#[]⟩,.string ⟨#[]⟩,.slice none 0 0,.slice none 0 0,.slice none 0 0,.bool false,.string ⟨#[]⟩]:Array Value)[j]?:=fun j=>cell_of_row w12 _ j _ _ _ r12
 refine bodyPost_ret (v:=.tuple #[.agg #[.int .i64 1,.int .i64 1,.int .i64 (-1),.int .i64 0,.string ⟨#[]⟩,.string ⟨#[]⟩,.string ⟨#[]⟩,.slice none 0 0,.slice none 0 0,.slice none 0 0,.bool false,.string ⟨#[]⟩],.int .i64 0]) (by simp[results,Tryz.results29,go_sem,hcz]) rfl ?_
 have R4:=HR.out
 have R12:=R4.keep (w':=w12) (fun k _ hk=>s12 k (by rcases hk with rfl|hk;omega;have:=h.has.own k hk;omega))
 have K12:Keep (Lv w.heap.size g [v]) w w12:=(Keep.of b04 (fun k hk=>hk.1)).trans (Q:=fun k=>k<w.heap.size) ⟨b12.os,b12.tape,b12.output,by omega,fun k hk=>b12.block k (by omega)⟩ (fun k hk=>hk.1)
 exact ⟨_,0,rfl,voidN,r,v,fun _=>False,⟨IsN.shut (ComsR.nil _ _) (ComsR.nil _ _) (NodesR.nil _ _),R12.b,fun _ h=>h.elim,fun _ h=>h.elim,fun _ h=>h.elim,NewV.self (by simp),K12,fun _=>Nat.zero_le _,⟨rfl,rfl⟩,fun _ _=>h.ok⟩⟩
set_option maxRecDepth 100000 in
set_option maxHeartbeats 3200000 in
theorem flValue_bad (g:Nat) (s:ByteArray) (hs:s.size≤10000) (n:Int) (deep:Nat) (r:Rst) (v:Value) (k0 k1 k2 k3:Int) (k4 k5 k6:ByteArray) (xa:Option Addr) (xb xc:Nat) (ya:Option Addr) (yb yc:Nat) (za:Option Addr) (zb zc:Nat) (k7:Bool) (k8:ByteArray) (o:Rd (NT × Rst)) (w:World) (h:RS g s n r v w) (hsg:signB s r.at' (decide (k0=3∨k0=4∨k1=2∨k1=3))=true) (q:Nat) (c0:Int) (ho1:skipP s n (fresh (r.at'+1)) (.bad q c0)) (ho:o=.bad q c0) :
  Calls Tryz.prog 29 #[.pointer (some ⟨g,0,none⟩),.agg #[.int .i64 k0,.int .i64 k1,.int .i64 k2,.int .i64 k3,.string k4,.string k5,.string k6,.slice xa xb xc,.slice ya yb yc,.slice za zb zc,.bool k7,.string k8],.int .i64 (deep:Int)] w fun e w'=>NodePost g s n w [v] o e w':=by
 subst ho
 have hg:=h.cells.lt
 obtain ⟨W1,hW1⟩:∃ W1,W1=(w.alloc (.cells #[.int .i64 k0,.int .i64 k1,.int .i64 k2,.int .i64 k3,.string k4,.string k5,.string k6,.slice xa xb xc,.slice ya yb yc,.slice za zb zc,.bool k7,.string k8] 30)).alloc (.cells #[.int .i64 0,.int .i64 0,.int .i64 0,.int .i64 0,.string ⟨#[]⟩,.string ⟨#[]⟩,.string ⟨#[]⟩,.slice none 0 0,.slice none 0 0,.slice none 0 0,.bool false,.string ⟨#[]⟩] 30):=⟨_,rfl⟩
 have u1:W1.heap.size=w.heap.size+2:=by rw[hW1];simp
 have b1:Below w.heap.size w W1:=by rw[hW1];exact ((Below.refl _ _).alloc (Nat.le_refl _) _).alloc (by simp) _
 have rk:W1.heap[w.heap.size]?=some (.cells #[.int .i64 k0,.int .i64 k1,.int .i64 k2,.int .i64 k3,.string k4,.string k5,.string k6,.slice xa xb xc,.slice ya yb yc,.slice za zb zc,.bool k7,.string k8] 30 (0,0)):=by rw[hW1];exact (heap_alloc_old _ _ (by simp)).trans (heap_alloc_new w _)
 have ra:W1.heap[w.heap.size+1]?=some (.cells #[.int .i64 0,.int .i64 0,.int .i64 0,.int .i64 0,.string ⟨#[]⟩,.string ⟨#[]⟩,.string ⟨#[]⟩,.slice none 0 0,.slice none 0 0,.slice none 0 0,.bool false,.string ⟨#[]⟩] 30 (0,0)):=by
  rw[hW1]
  have:=heap_alloc_new (w.alloc (.cells #[.int .i64 k0,.int .i64 k1,.int .i64 k2,.int .i64 k3,.string k4,.string k5,.string k6,.slice xa xb xc,.slice ya yb yc,.slice za zb zc,.bool k7,.string k8] 30)) (.cells #[.int .i64 0,.int .i64 0,.int .i64 0,.int .i64 0,.string ⟨#[]⟩,.string ⟨#[]⟩,.string ⟨#[]⟩,.slice none 0 0,.slice none 0 0,.slice none 0 0,.bool false,.string ⟨#[]⟩] 30)
  simpa using this
 have R1:=h.below b1 (Nat.le_refl _)
 have HW:=Lib.hid hW1
 have CE:∀ W,Calls Tryz.prog 30 #[] W fun e w'=>e=.returned (.agg #[.int .i64 1,.int .i64 1,.int .i64 (-1),.int .i64 0,.string ⟨#[]⟩,.string ⟨#[]⟩,.string ⟨#[]⟩,.slice none 0 0,.slice none 0 0,.slice none 0 0,.bool false,.string ⟨#[]⟩])∧Below W.heap.size W w':=fun W=>flEmpty_is W
 clear hW1
 go_enter Tryz.func29,Tryz.ntmps29
 go_upto_region 1 with fail
 rw[←HW.out]
 go_upto_region 2 with (go_at_call 30;refine (CE _).mono ?_;rintro e w2 ⟨rfl,b2⟩)
 have sz2:=b2.size
 obtain ⟨w3,hw3⟩:∃ w3,w3=w2.alloc (.cells #[.int .i64 1,.int .i64 1,.int .i64 (-1),.int .i64 0,.string ⟨#[]⟩,.string ⟨#[]⟩,.string ⟨#[]⟩,.slice none 0 0,.slice none 0 0,.slice none 0 0,.bool false,.string ⟨#[]⟩] 30):=⟨_,rfl⟩
 have z3:w3.heap.size=w2.heap.size+1:=by rw[hw3];simp
 have b3:Below w2.heap.size w2 w3:=by rw[hw3];exact (Below.refl _ _).alloc (Nat.le_refl _) _
 have r3:w3.heap[w2.heap.size]?=some (.cells #[.int .i64 1,.int .i64 1,.int .i64 (-1),.int .i64 0,.string ⟨#[]⟩,.string ⟨#[]⟩,.string ⟨#[]⟩,.slice none 0 0,.slice none 0 0,.slice none 0 0,.bool false,.string ⟨#[]⟩] 30 (0,0)):=by rw[hw3];exact heap_alloc_new w2 _
 have R3:=(R1.below b2 (Nat.le_refl _)).below b3 (Nat.le_refl _)
 have rk3:=(b3.block w.heap.size (by omega)).trans ((b2.block w.heap.size (by omega)).trans rk)
 have ra3:=(b3.block (w.heap.size+1) (by omega)).trans ((b2.block (w.heap.size+1) (by omega)).trans ra)
 have b03:Below w.heap.size w w3:=b1.trans ((b2.mono (by omega)).trans (b3.mono (by omega)))
 rw[←hw3]
 clear hw3
 obtain ⟨nb,hnb⟩:∃ nb,nb=w2.heap.size:=⟨_,rfl⟩
 rw[←hnb] at r3 z3 ⊢
 have hgn:g≠nb:=by omega
 have han:w.heap.size+1<nb:=by omega
 have HNB:=Lib.hid hnb
 clear hnb b1 b2 b3 rk ra R1 CE
 have qk3:∀ j,w3.cell? ⟨w.heap.size,j,none⟩=(#[.int .i64 k0,.int .i64 k1,.int .i64 k2,.int .i64 k3,.string k4,.string k5,.string k6,.slice xa xb xc,.slice ya yb yc,.slice za zb zc,.bool k7,.string k8]:Array Value)[j]?:=fun j=>cell_of_row w3 _ j _ _ _ rk3
 have CL:=flColon_x true g s n r.at' (r.fin:Int) v r.same k0 k1 k2 k3 k4 k5 k6 xa xb xc ya yb yc za zb zc k7 k8 w3 R3.cells (by omega) hsg
 go_wp2_with fail
 refine CL.mono ?_
 rintro e w4 ⟨rfl,b4⟩
 have sz4:=b4.size
 have R4:=R3.below b4 (Nat.le_refl _)
 have r4:=(b4.block nb (by omega)).trans r3
 have ra4:=(b4.block (w.heap.size+1) (by omega)).trans ra3
 have b04:=b03.trans (b4.mono (by omega))
 clear CL R3 r3 ra3 rk3 qk3 b03 b4
 have hown:=h.has.own
 have hap:=h.apart
 have hwf:=h.ok
 have HV:=Lib.hid h.has
 obtain ⟨av,cv,rfl⟩:=h.has.form
 have A4:=R4.cells
 have hg4:=A4.lt
 clear h R4
 have K4:Keep (Lv w.heap.size g []) w w4:=Keep.of b04 (fun k hk=>hk.1)
 have H4:=HV.out.below b04 (Nat.le_refl _)
 have hlt:=sign_lt hsg
 go_upto_region 7 with (first
  | (go_at_call 20;refine (flTake_is g s n _ _ av r.l.length cv r.same _ A4).mono ?_;rintro e w5 ⟨rfl,h5,g5,z5⟩;have c5:=h5.cell;have iw:(0:Int)≤(r.at':Int):=by omega)
  | (go_at_call 18;refine (flPass_is g s n _ _ ((r.at':Int)+1) (.slice none 0 0) false _ h5).mono ?_;rintro e w6 ⟨rfl,h6,g6,z6⟩;have R6:RS g s n (fresh (r.at'+1)) (.slice none 0 0) w6:=RS.bare (by rw[show ((r.at'+1:Nat):Int)=(r.at':Int)+1 by omega];exact h6) (Nat.le_refl _) hlt;have K6:Keep (Lv w.heap.size g []) w w6:=K4.trans (Q:=fun k=>k<w4.heap.size∧k≠g) ⟨g6.os.trans g5.os,g6.tape.trans g5.tape,g6.output.trans g5.output,by omega,fun k hk=>(g6.block k (by omega) (fun e=>hk.2 (by injection e))).trans (g5.block k hk.1 (fun e=>hk.2 (by injection e)))⟩ (fun k hk=>⟨Nat.lt_of_lt_of_le hk.1 K4.size,hk.2.1⟩);have H6:=(H4.grown g5 (.inr hap)).grown g6 (.inr hap);have r6:=(g6.block nb (by omega) (fun e=>hgn (by injection e with e;exact e.symm))).trans ((g5.block nb (by omega) (fun e=>hgn (by injection e with e;exact e.symm))).trans r4);have ra6:=(g6.block (w.heap.size+1) (by omega) (fun e=>absurd hg (by injection e with e;omega))).trans ((g5.block (w.heap.size+1) (by omega) (fun e=>absurd hg (by injection e with e;omega))).trans ra4))
  | (go_at_call 19;refine (flSkip_of g s n (fresh (r.at'+1)) (.slice none 0 0) (.bad q c0) _ R6 hs ho1).mono ?_;rintro e w7 ⟨c7,v1,r1',rfl,R7,n7,K67,res7⟩;obtain ⟨e7,hc7,hq7⟩:=res7;have HE7:=Lib.hid e7;clear e7;have hcb:(c7==0)=false:=by rw[beq_eq_false_iff_ne];exact hc7))
 have N7:NewV w.heap.size [.slice av r.l.length cv] v1:=(n7.trans K6.size (one_mem NewV.none):NewV w.heap.size [] v1).trans (Nat.le_refl _) (fun u hu=>by cases hu)
 have V7:∀ k,v1.ownBlock=some k→w6.heap.size≤k∧k<w7.heap.size:=fun k hk=>⟨(by rcases n7 k hk with h|⟨u,hu,h⟩;exact h;rw[List.mem_singleton] at hu;subst hu;cases h),R7.has.own k hk⟩
 have sz67:=K67.size
 have hm67:∀ k,k<w6.heap.size→k≠g→w7.heap[k]?=w6.heap[k]?:=fun k hk hne=>K67.block k ⟨hk,hne,fun u hu e=>by rw[List.mem_singleton] at hu;subst hu;cases e⟩
 have K7:Keep (Lv w.heap.size g []) w w7:=K6.trans K67 (Lv.step K6.size (one_mem NewV.none))
 have H7:HasV 2 w7 (.slice av r.l.length cv) r.l.length (comV r.l):=H6.keep fun k hk hlt=>hm67 k hlt (fun e=>hap (by rw[hk,e]))
 have r7:=(hm67 nb (by omega) (fun e=>hgn e.symm)).trans r6
 have ra7:=(hm67 (w.heap.size+1) (by omega) (by omega)).trans ra6
 have R8:=R7
 have r8:=r7
 have ra8:=ra7
 have K8:=K7
 have H8:=H7
 obtain ⟨w8,hw8⟩:∃ w8,w8=w7:=⟨_,rfl⟩
 have z8:w8.heap.size=w7.heap.size:=by rw[hw8]
 rw[←hw8] at R8 r8 ra8 K8 H8 ⊢
 clear hw8
 have q8:∀ j,w8.cell? ⟨nb,j,none⟩=(#[.int .i64 1,.int .i64 1,.int .i64 (-1),.int .i64 0,.string ⟨#[]⟩,.string ⟨#[]⟩,.string ⟨#[]⟩,.slice none 0 0,.slice none 0 0,.slice none 0 0,.bool false,.string ⟨#[]⟩]:Array Value)[j]?:=fun j=>cell_of_row w8 _ j _ _ _ r8
 have HC8:=Lib.hid (ComsR.nil (fun _=>False) w8)
 have HH8:=Lib.hid H8
 have hrl:r.l.length≤10000:=by have:=hwf.few;have:=hwf.top;omega
 have HRK:=Lib.hid (And.intro R8 K8)
 clear R8 K8 H8 H7 R7 K7
 go_wp2_with (at_builtin;refine appendH rfl _ _ rfl (fun _=>False) (.slice av r.l.length cv) (.slice none 0 0) r.l [] rfl rfl HH8.out HC8.out (by simp;omega) ?_;intro v5 w9 o9 g9 n9;rw[List.append_nil] at o9;obtain ⟨a5,c5,rfl⟩:=o9.form;have r9:=(g9.block nb (by omega) (fun e=>by have:=hown nb e.symm;omega)).trans r8;have ra9:=(g9.block (w.heap.size+1) (by omega) (fun e=>by have:=hown _ e.symm;omega)).trans ra8;have q9:∀ j,w9.cell? ⟨nb,j,none⟩=(#[.int .i64 1,.int .i64 1,.int .i64 (-1),.int .i64 0,.string ⟨#[]⟩,.string ⟨#[]⟩,.string ⟨#[]⟩,.slice none 0 0,.slice none 0 0,.slice none 0 0,.bool false,.string ⟨#[]⟩]:Array Value)[j]?:=fun j=>cell_of_row w9 _ j _ _ _ r9;have f9:∀ j,w9.frozen? ⟨nb,j,none⟩=false:=fun j=>frozen_of_row w9 _ j _ _ r9;have qa9:∀ j,w9.cell? ⟨w.heap.size+1,j,none⟩=(#[.int .i64 0,.int .i64 0,.int .i64 0,.int .i64 0,.string ⟨#[]⟩,.string ⟨#[]⟩,.string ⟨#[]⟩,.slice none 0 0,.slice none 0 0,.slice none 0 0,.bool false,.string ⟨#[]⟩]:Array Value)[j]?:=fun j=>cell_of_row w9 _ j _ _ _ ra9;have fa9:∀ j,w9.frozen? ⟨w.heap.size+1,j,none⟩=false:=fun j=>frozen_of_row w9 _ j _ _ ra9;have hane:w.heap.size+1≠nb:=by omega)
 have sz9:=g9.size
 obtain ⟨w10,hw10⟩:∃ w10,w10=w9.setCell ⟨nb,8,none⟩ (.slice a5 r.l.length c5):=⟨_,rfl⟩
 have s10:∀ k,k≠nb→w10.heap[k]?=w9.heap[k]?:=fun k hk=>by rw[hw10,heap_setCell_other _ _ _ _ hk]
 have z10:w10.heap.size=w9.heap.size:=by rw[hw10];simp[World.setCell]
 have o10:w10.os=w9.os∧w10.tape=w9.tape∧w10.output=w9.output:=by rw[hw10];exact ⟨rfl,rfl,rfl⟩
 have ra10:=(s10 (w.heap.size+1) (by omega)).trans ra9
 rw[←hw10]
 clear hw10 q9 f9 qa9 fa9 q8
 obtain ⟨w12,hw12⟩:∃ w12,w12=((((((((((((w10.setCell ⟨w.heap.size+1,0,none⟩ (.int .i64 1)).setCell ⟨w.heap.size+1,1,none⟩ (.int .i64 1)).setCell ⟨w.heap.size+1,2,none⟩ (.int .i64 (-1))).setCell ⟨w.heap.size+1,3,none⟩ (.int .i64 0)).setCell ⟨w.heap.size+1,4,none⟩ (.string ⟨#[]⟩)).setCell ⟨w.heap.size+1,5,none⟩ (.string ⟨#[]⟩)).setCell ⟨w.heap.size+1,6,none⟩ (.string ⟨#[]⟩)).setCell ⟨w.heap.size+1,7,none⟩ (.slice none 0 0)).setCell ⟨w.heap.size+1,8,none⟩ (.slice a5 r.l.length c5)).setCell ⟨w.heap.size+1,9,none⟩ (.slice none 0 0)).setCell ⟨w.heap.size+1,10,none⟩ (.bool false)).setCell ⟨w.heap.size+1,11,none⟩ (.string ⟨#[]⟩)):=⟨_,rfl⟩
 have r12:w12.heap[w.heap.size+1]?=some (.cells #[.int .i64 1,.int .i64 1,.int .i64 (-1),.int .i64 0,.string ⟨#[]⟩,.string ⟨#[]⟩,.string ⟨#[]⟩,.slice none 0 0,.slice a5 r.l.length c5,.slice none 0 0,.bool false,.string ⟨#[]⟩] 30 (0,0)):=by rw[hw12];exact row12_set w10 (hg:=ra10) ..
 have b12:Below (w.heap.size+1) w10 w12:=by rw[hw12];exact row12_below w10 _ _ (Nat.le_refl _) _ _ _ _ _ _ _ _ _ _ _ _
 have z12:w12.heap.size=w10.heap.size:=by rw[hw12,row12_size]
 have s12:∀ k,¬ k=w.heap.size+1→w12.heap[k]?=w10.heap[k]?:=fun k hk=>by rw[hw12];exact row12_other w10 _ k hk ..
 rw[←hw12]
 clear hw12
 have hcz:∀ j,w12.cell? ⟨w.heap.size+1,j,none⟩=(#[.int .i64 1,.int .i64 1,.int .i64 (-1),.int .i64 0,.string ⟨#[]⟩,.string ⟨#[]⟩,.string ⟨#[]⟩,.slice none 0 0,.slice a5 r.l.length c5,.slice none 0 0,.bool false,.string ⟨#[]⟩]:Array Value)[j]?:=fun j=>cell_of_row w12 _ j _ _ _ r12
 refine bodyPost_ret (v:=.tuple #[.agg #[.int .i64 1,.int .i64 1,.int .i64 (-1),.int .i64 0,.string ⟨#[]⟩,.string ⟨#[]⟩,.string ⟨#[]⟩,.slice none 0 0,.slice a5 r.l.length c5,.slice none 0 0,.bool false,.string ⟨#[]⟩],.int .i64 c7]) (by simp[results,Tryz.results29,go_sem,hcz]) rfl ?_
 obtain ⟨R8,K8⟩:=HRK.out
 have sK8:=K8.size
 have hs12:∀ k,k≠nb→k≠w.heap.size+1→w12.heap[k]?=w9.heap[k]?:=fun k k1 k2=>(s12 k k2).trans (s10 k k1)
 have n9':∀ k,(Value.slice a5 r.l.length c5).ownBlock=some k→(Value.slice av r.l.length cv).ownBlock=some k∨k=w8.heap.size:=fun k hk=>by
  rcases n9 with e|e
  ·exact .inl (e.symm.trans hk)
  ·rw[e] at hk;injection hk with hk;exact .inr hk.symm
 have hv9:∀ k,v1.ownBlock=some k→w9.heap[k]?=w8.heap[k]?:=fun k hk=>g9.block k (by have:=V7 k hk;omega) (fun e=>by have:=hown k e.symm;have:=V7 k hk;have:=K6.size;omega)
 have R12:=R8.keep (w':=w12) (fun k hlt hk=>by
  rcases hk with rfl|hk
  ·exact (hs12 k hgn (by omega)).trans (g9.block k hlt (fun e=>hap e.symm))
  ·exact (hs12 k (by have:=V7 k hk;omega) (by have:=V7 k hk;omega)).trans (hv9 k hk))
 have K12:Keep (Lv w.heap.size g [.slice av r.l.length cv]) w w12:=by
  refine (K8.mono (P:=Lv w.heap.size g [.slice av r.l.length cv]) (fun k hk=>⟨hk.1,hk.2.1,fun u hu=>by cases hu⟩)).trans (Q:=fun k=>k<w.heap.size∧(Value.slice av r.l.length cv).ownBlock≠some k) ⟨b12.os.trans (o10.1.trans g9.os),b12.tape.trans (o10.2.1.trans g9.tape),b12.output.trans (o10.2.2.trans g9.output),by omega,fun k hk=>(hs12 k (by have:=hk.1;omega) (by have:=hk.1;omega)).trans (g9.block k (by have:=hk.1;omega) (fun e=>hk.2 e.symm))⟩ (fun k hk=>⟨hk.1,hk.2.2 _ (by simp)⟩)
 have h12:HasV 2 w12 (.slice a5 r.l.length c5) r.l.length (comV r.l):=o9.keep fun k hk hlt=>hs12 k (by rcases n9' k hk with e|e;have:=hown k e;omega;omega) (by rcases n9' k hk with e|e;have:=hown k e;omega;omega)
 exact ⟨_,c7,rfl,voidN.withLead r.l,r1',v1,_,lead_M (R:=fun _=>False) (IsN.shut (ComsR.nil _ _) (ComsR.nil _ _) (NodesR.nil _ _):IsN (fun _=>False) w12 voidN (headC voidN.h (.slice none 0 0) (.slice none 0 0) (.slice none 0 0))) R12 h12 (fun k hk=>hk.elim) (fun k hk=>by
  rcases n9' k hk with e|e
  ·exact ⟨fun e2=>hap (by rw[e,e2]),fun e2=>by have:=V7 k e2;have:=hown k e;have:=K6.size;omega,.inr e⟩
  ·exact ⟨by omega,fun e2=>by have:=V7 k e2;omega,.inl (by omega)⟩) N7 K12 ⟨HE7.out,hc7,hq7⟩⟩
set_option maxRecDepth 100000 in
set_option maxHeartbeats 3200000 in
theorem flValue_lacks (g:Nat) (s:ByteArray) (hs:s.size≤10000) (n:Int) (deep:Nat) (r:Rst) (v:Value) (k0 k1 k2 k3:Int) (k4 k5 k6:ByteArray) (xa:Option Addr) (xb xc:Nat) (ya:Option Addr) (yb yc:Nat) (za:Option Addr) (zb zc:Nat) (k7:Bool) (k8:ByteArray) (o:Rd (NT × Rst)) (w:World) (h:RS g s n r v w) (hsg:signB s r.at' (decide (k0=3∨k0=4∨k1=2∨k1=3))=true) (b:Rst) (ho1:skipP s n (fresh (r.at'+1)) (.ok b)) (hla:lacksB s b.at'=true) (ho:o=.ok (voidN.withLead r.l,b)) :
  Calls Tryz.prog 29 #[.pointer (some ⟨g,0,none⟩),.agg #[.int .i64 k0,.int .i64 k1,.int .i64 k2,.int .i64 k3,.string k4,.string k5,.string k6,.slice xa xb xc,.slice ya yb yc,.slice za zb zc,.bool k7,.string k8],.int .i64 (deep:Int)] w fun e w'=>NodePost g s n w [v] o e w':=by
 subst ho
 have hg:=h.cells.lt
 obtain ⟨W1,hW1⟩:∃ W1,W1=(w.alloc (.cells #[.int .i64 k0,.int .i64 k1,.int .i64 k2,.int .i64 k3,.string k4,.string k5,.string k6,.slice xa xb xc,.slice ya yb yc,.slice za zb zc,.bool k7,.string k8] 30)).alloc (.cells #[.int .i64 0,.int .i64 0,.int .i64 0,.int .i64 0,.string ⟨#[]⟩,.string ⟨#[]⟩,.string ⟨#[]⟩,.slice none 0 0,.slice none 0 0,.slice none 0 0,.bool false,.string ⟨#[]⟩] 30):=⟨_,rfl⟩
 have u1:W1.heap.size=w.heap.size+2:=by rw[hW1];simp
 have b1:Below w.heap.size w W1:=by rw[hW1];exact ((Below.refl _ _).alloc (Nat.le_refl _) _).alloc (by simp) _
 have rk:W1.heap[w.heap.size]?=some (.cells #[.int .i64 k0,.int .i64 k1,.int .i64 k2,.int .i64 k3,.string k4,.string k5,.string k6,.slice xa xb xc,.slice ya yb yc,.slice za zb zc,.bool k7,.string k8] 30 (0,0)):=by rw[hW1];exact (heap_alloc_old _ _ (by simp)).trans (heap_alloc_new w _)
 have ra:W1.heap[w.heap.size+1]?=some (.cells #[.int .i64 0,.int .i64 0,.int .i64 0,.int .i64 0,.string ⟨#[]⟩,.string ⟨#[]⟩,.string ⟨#[]⟩,.slice none 0 0,.slice none 0 0,.slice none 0 0,.bool false,.string ⟨#[]⟩] 30 (0,0)):=by
  rw[hW1]
  have:=heap_alloc_new (w.alloc (.cells #[.int .i64 k0,.int .i64 k1,.int .i64 k2,.int .i64 k3,.string k4,.string k5,.string k6,.slice xa xb xc,.slice ya yb yc,.slice za zb zc,.bool k7,.string k8] 30)) (.cells #[.int .i64 0,.int .i64 0,.int .i64 0,.int .i64 0,.string ⟨#[]⟩,.string ⟨#[]⟩,.string ⟨#[]⟩,.slice none 0 0,.slice none 0 0,.slice none 0 0,.bool false,.string ⟨#[]⟩] 30)
  simpa using this
 have R1:=h.below b1 (Nat.le_refl _)
 have HW:=Lib.hid hW1
 have CE:∀ W,Calls Tryz.prog 30 #[] W fun e w'=>e=.returned (.agg #[.int .i64 1,.int .i64 1,.int .i64 (-1),.int .i64 0,.string ⟨#[]⟩,.string ⟨#[]⟩,.string ⟨#[]⟩,.slice none 0 0,.slice none 0 0,.slice none 0 0,.bool false,.string ⟨#[]⟩])∧Below W.heap.size W w':=fun W=>flEmpty_is W
 clear hW1
 go_enter Tryz.func29,Tryz.ntmps29
 go_upto_region 1 with fail
 rw[←HW.out]
 go_upto_region 2 with (go_at_call 30;refine (CE _).mono ?_;rintro e w2 ⟨rfl,b2⟩)
 have sz2:=b2.size
 obtain ⟨w3,hw3⟩:∃ w3,w3=w2.alloc (.cells #[.int .i64 1,.int .i64 1,.int .i64 (-1),.int .i64 0,.string ⟨#[]⟩,.string ⟨#[]⟩,.string ⟨#[]⟩,.slice none 0 0,.slice none 0 0,.slice none 0 0,.bool false,.string ⟨#[]⟩] 30):=⟨_,rfl⟩
 have z3:w3.heap.size=w2.heap.size+1:=by rw[hw3];simp
 have b3:Below w2.heap.size w2 w3:=by rw[hw3];exact (Below.refl _ _).alloc (Nat.le_refl _) _
 have r3:w3.heap[w2.heap.size]?=some (.cells #[.int .i64 1,.int .i64 1,.int .i64 (-1),.int .i64 0,.string ⟨#[]⟩,.string ⟨#[]⟩,.string ⟨#[]⟩,.slice none 0 0,.slice none 0 0,.slice none 0 0,.bool false,.string ⟨#[]⟩] 30 (0,0)):=by rw[hw3];exact heap_alloc_new w2 _
 have R3:=(R1.below b2 (Nat.le_refl _)).below b3 (Nat.le_refl _)
 have rk3:=(b3.block w.heap.size (by omega)).trans ((b2.block w.heap.size (by omega)).trans rk)
 have ra3:=(b3.block (w.heap.size+1) (by omega)).trans ((b2.block (w.heap.size+1) (by omega)).trans ra)
 have b03:Below w.heap.size w w3:=b1.trans ((b2.mono (by omega)).trans (b3.mono (by omega)))
 rw[←hw3]
 clear hw3
 obtain ⟨nb,hnb⟩:∃ nb,nb=w2.heap.size:=⟨_,rfl⟩
 rw[←hnb] at r3 z3 ⊢
 have hgn:g≠nb:=by omega
 have han:w.heap.size+1<nb:=by omega
 have HNB:=Lib.hid hnb
 clear hnb b1 b2 b3 rk ra R1 CE
 have qk3:∀ j,w3.cell? ⟨w.heap.size,j,none⟩=(#[.int .i64 k0,.int .i64 k1,.int .i64 k2,.int .i64 k3,.string k4,.string k5,.string k6,.slice xa xb xc,.slice ya yb yc,.slice za zb zc,.bool k7,.string k8]:Array Value)[j]?:=fun j=>cell_of_row w3 _ j _ _ _ rk3
 have CL:=flColon_x true g s n r.at' (r.fin:Int) v r.same k0 k1 k2 k3 k4 k5 k6 xa xb xc ya yb yc za zb zc k7 k8 w3 R3.cells (by omega) hsg
 go_wp2_with fail
 refine CL.mono ?_
 rintro e w4 ⟨rfl,b4⟩
 have sz4:=b4.size
 have R4:=R3.below b4 (Nat.le_refl _)
 have r4:=(b4.block nb (by omega)).trans r3
 have ra4:=(b4.block (w.heap.size+1) (by omega)).trans ra3
 have b04:=b03.trans (b4.mono (by omega))
 clear CL R3 r3 ra3 rk3 qk3 b03 b4
 have hown:=h.has.own
 have hap:=h.apart
 have hwf:=h.ok
 have HV:=Lib.hid h.has
 obtain ⟨av,cv,rfl⟩:=h.has.form
 have A4:=R4.cells
 have hg4:=A4.lt
 clear h R4
 have K4:Keep (Lv w.heap.size g []) w w4:=Keep.of b04 (fun k hk=>hk.1)
 have H4:=HV.out.below b04 (Nat.le_refl _)
 have hlt:=sign_lt hsg
 go_upto_region 7 with (first
  | (go_at_call 20;refine (flTake_is g s n _ _ av r.l.length cv r.same _ A4).mono ?_;rintro e w5 ⟨rfl,h5,g5,z5⟩;have c5:=h5.cell;have iw:(0:Int)≤(r.at':Int):=by omega)
  | (go_at_call 18;refine (flPass_is g s n _ _ ((r.at':Int)+1) (.slice none 0 0) false _ h5).mono ?_;rintro e w6 ⟨rfl,h6,g6,z6⟩;have R6:RS g s n (fresh (r.at'+1)) (.slice none 0 0) w6:=RS.bare (by rw[show ((r.at'+1:Nat):Int)=(r.at':Int)+1 by omega];exact h6) (Nat.le_refl _) hlt;have K6:Keep (Lv w.heap.size g []) w w6:=K4.trans (Q:=fun k=>k<w4.heap.size∧k≠g) ⟨g6.os.trans g5.os,g6.tape.trans g5.tape,g6.output.trans g5.output,by omega,fun k hk=>(g6.block k (by omega) (fun e=>hk.2 (by injection e))).trans (g5.block k hk.1 (fun e=>hk.2 (by injection e)))⟩ (fun k hk=>⟨Nat.lt_of_lt_of_le hk.1 K4.size,hk.2.1⟩);have H6:=(H4.grown g5 (.inr hap)).grown g6 (.inr hap);have r6:=(g6.block nb (by omega) (fun e=>hgn (by injection e with e;exact e.symm))).trans ((g5.block nb (by omega) (fun e=>hgn (by injection e with e;exact e.symm))).trans r4);have ra6:=(g6.block (w.heap.size+1) (by omega) (fun e=>absurd hg (by injection e with e;omega))).trans ((g5.block (w.heap.size+1) (by omega) (fun e=>absurd hg (by injection e with e;omega))).trans ra4))
  | (go_at_call 19;refine (flSkip_of g s n (fresh (r.at'+1)) (.slice none 0 0) (.ok b) _ R6 hs ho1).mono ?_;rintro e w7 ⟨c7,v1,r1',rfl,R7,n7,K67,res7⟩;obtain ⟨rfl,rfl⟩:=res7))
 have N7:NewV w.heap.size [.slice av r.l.length cv] v1:=(n7.trans K6.size (one_mem NewV.none):NewV w.heap.size [] v1).trans (Nat.le_refl _) (fun u hu=>by cases hu)
 have V7:∀ k,v1.ownBlock=some k→w6.heap.size≤k∧k<w7.heap.size:=fun k hk=>⟨(by rcases n7 k hk with h|⟨u,hu,h⟩;exact h;rw[List.mem_singleton] at hu;subst hu;cases h),R7.has.own k hk⟩
 have sz67:=K67.size
 have hm67:∀ k,k<w6.heap.size→k≠g→w7.heap[k]?=w6.heap[k]?:=fun k hk hne=>K67.block k ⟨hk,hne,fun u hu e=>by rw[List.mem_singleton] at hu;subst hu;cases e⟩
 have K7:Keep (Lv w.heap.size g []) w w7:=K6.trans K67 (Lv.step K6.size (one_mem NewV.none))
 have H7:HasV 2 w7 (.slice av r.l.length cv) r.l.length (comV r.l):=H6.keep fun k hk hlt=>hm67 k hlt (fun e=>hap (by rw[hk,e]))
 have r7:=(hm67 nb (by omega) (fun e=>hgn e.symm)).trans r6
 have ra7:=(hm67 (w.heap.size+1) (by omega) (by omega)).trans ra6
 have CN:=flEnds_is true g s n r1'.at' (r1'.fin:Int) v1 r1'.same w7 R7.cells (by omega) hla
 go_wp2_with fail
 refine CN.mono ?_
 rintro e w7' ⟨rfl,j1,rfl⟩
 obtain ⟨w8,hw8⟩:∃ w8,w8=w7.drewN j1:=⟨_,rfl⟩
 have R8:=R7.drewN j1
 have r8:(w7.drewN j1).heap[nb]?=_:=r7
 have ra8:(w7.drewN j1).heap[w.heap.size+1]?=_:=ra7
 have K8:=K7.drewN j1
 have H8:HasV 2 (w7.drewN j1) (.slice av r.l.length cv) r.l.length (comV r.l):=H7.keep (fun _ _ _=>rfl)
 have z8:(w7.drewN j1).heap.size=w7.heap.size:=rfl
 rw[←hw8] at R8 r8 ra8 K8 H8 z8 ⊢
 clear hw8 CN
 have q8:∀ j,w8.cell? ⟨nb,j,none⟩=(#[.int .i64 1,.int .i64 1,.int .i64 (-1),.int .i64 0,.string ⟨#[]⟩,.string ⟨#[]⟩,.string ⟨#[]⟩,.slice none 0 0,.slice none 0 0,.slice none 0 0,.bool false,.string ⟨#[]⟩]:Array Value)[j]?:=fun j=>cell_of_row w8 _ j _ _ _ r8
 have HC8:=Lib.hid (ComsR.nil (fun _=>False) w8)
 have HH8:=Lib.hid H8
 have hrl:r.l.length≤10000:=by have:=hwf.few;have:=hwf.top;omega
 have HRK:=Lib.hid (And.intro R8 K8)
 clear R8 K8 H8 H7 R7 K7
 go_wp2_with (at_builtin;refine appendH rfl _ _ rfl (fun _=>False) (.slice av r.l.length cv) (.slice none 0 0) r.l [] rfl rfl HH8.out HC8.out (by simp;omega) ?_;intro v5 w9 o9 g9 n9;rw[List.append_nil] at o9;obtain ⟨a5,c5,rfl⟩:=o9.form;have r9:=(g9.block nb (by omega) (fun e=>by have:=hown nb e.symm;omega)).trans r8;have ra9:=(g9.block (w.heap.size+1) (by omega) (fun e=>by have:=hown _ e.symm;omega)).trans ra8;have q9:∀ j,w9.cell? ⟨nb,j,none⟩=(#[.int .i64 1,.int .i64 1,.int .i64 (-1),.int .i64 0,.string ⟨#[]⟩,.string ⟨#[]⟩,.string ⟨#[]⟩,.slice none 0 0,.slice none 0 0,.slice none 0 0,.bool false,.string ⟨#[]⟩]:Array Value)[j]?:=fun j=>cell_of_row w9 _ j _ _ _ r9;have f9:∀ j,w9.frozen? ⟨nb,j,none⟩=false:=fun j=>frozen_of_row w9 _ j _ _ r9;have qa9:∀ j,w9.cell? ⟨w.heap.size+1,j,none⟩=(#[.int .i64 0,.int .i64 0,.int .i64 0,.int .i64 0,.string ⟨#[]⟩,.string ⟨#[]⟩,.string ⟨#[]⟩,.slice none 0 0,.slice none 0 0,.slice none 0 0,.bool false,.string ⟨#[]⟩]:Array Value)[j]?:=fun j=>cell_of_row w9 _ j _ _ _ ra9;have fa9:∀ j,w9.frozen? ⟨w.heap.size+1,j,none⟩=false:=fun j=>frozen_of_row w9 _ j _ _ ra9;have hane:w.heap.size+1≠nb:=by omega)
 have sz9:=g9.size
 obtain ⟨w10,hw10⟩:∃ w10,w10=w9.setCell ⟨nb,8,none⟩ (.slice a5 r.l.length c5):=⟨_,rfl⟩
 have s10:∀ k,k≠nb→w10.heap[k]?=w9.heap[k]?:=fun k hk=>by rw[hw10,heap_setCell_other _ _ _ _ hk]
 have z10:w10.heap.size=w9.heap.size:=by rw[hw10];simp[World.setCell]
 have o10:w10.os=w9.os∧w10.tape=w9.tape∧w10.output=w9.output:=by rw[hw10];exact ⟨rfl,rfl,rfl⟩
 have ra10:=(s10 (w.heap.size+1) (by omega)).trans ra9
 rw[←hw10]
 clear hw10 q9 f9 qa9 fa9 q8
 obtain ⟨w12,hw12⟩:∃ w12,w12=((((((((((((w10.setCell ⟨w.heap.size+1,0,none⟩ (.int .i64 1)).setCell ⟨w.heap.size+1,1,none⟩ (.int .i64 1)).setCell ⟨w.heap.size+1,2,none⟩ (.int .i64 (-1))).setCell ⟨w.heap.size+1,3,none⟩ (.int .i64 0)).setCell ⟨w.heap.size+1,4,none⟩ (.string ⟨#[]⟩)).setCell ⟨w.heap.size+1,5,none⟩ (.string ⟨#[]⟩)).setCell ⟨w.heap.size+1,6,none⟩ (.string ⟨#[]⟩)).setCell ⟨w.heap.size+1,7,none⟩ (.slice none 0 0)).setCell ⟨w.heap.size+1,8,none⟩ (.slice a5 r.l.length c5)).setCell ⟨w.heap.size+1,9,none⟩ (.slice none 0 0)).setCell ⟨w.heap.size+1,10,none⟩ (.bool false)).setCell ⟨w.heap.size+1,11,none⟩ (.string ⟨#[]⟩)):=⟨_,rfl⟩
 have r12:w12.heap[w.heap.size+1]?=some (.cells #[.int .i64 1,.int .i64 1,.int .i64 (-1),.int .i64 0,.string ⟨#[]⟩,.string ⟨#[]⟩,.string ⟨#[]⟩,.slice none 0 0,.slice a5 r.l.length c5,.slice none 0 0,.bool false,.string ⟨#[]⟩] 30 (0,0)):=by rw[hw12];exact row12_set w10 (hg:=ra10) ..
 have b12:Below (w.heap.size+1) w10 w12:=by rw[hw12];exact row12_below w10 _ _ (Nat.le_refl _) _ _ _ _ _ _ _ _ _ _ _ _
 have z12:w12.heap.size=w10.heap.size:=by rw[hw12,row12_size]
 have s12:∀ k,¬ k=w.heap.size+1→w12.heap[k]?=w10.heap[k]?:=fun k hk=>by rw[hw12];exact row12_other w10 _ k hk ..
 rw[←hw12]
 clear hw12
 have hcz:∀ j,w12.cell? ⟨w.heap.size+1,j,none⟩=(#[.int .i64 1,.int .i64 1,.int .i64 (-1),.int .i64 0,.string ⟨#[]⟩,.string ⟨#[]⟩,.string ⟨#[]⟩,.slice none 0 0,.slice a5 r.l.length c5,.slice none 0 0,.bool false,.string ⟨#[]⟩]:Array Value)[j]?:=fun j=>cell_of_row w12 _ j _ _ _ r12
 refine bodyPost_ret (v:=.tuple #[.agg #[.int .i64 1,.int .i64 1,.int .i64 (-1),.int .i64 0,.string ⟨#[]⟩,.string ⟨#[]⟩,.string ⟨#[]⟩,.slice none 0 0,.slice a5 r.l.length c5,.slice none 0 0,.bool false,.string ⟨#[]⟩],.int .i64 0]) (by simp[results,Tryz.results29,go_sem,hcz]) rfl ?_
 obtain ⟨R8,K8⟩:=HRK.out
 have sK8:=K8.size
 have hs12:∀ k,k≠nb→k≠w.heap.size+1→w12.heap[k]?=w9.heap[k]?:=fun k k1 k2=>(s12 k k2).trans (s10 k k1)
 have n9':∀ k,(Value.slice a5 r.l.length c5).ownBlock=some k→(Value.slice av r.l.length cv).ownBlock=some k∨k=w8.heap.size:=fun k hk=>by
  rcases n9 with e|e
  ·exact .inl (e.symm.trans hk)
  ·rw[e] at hk;injection hk with hk;exact .inr hk.symm
 have hv9:∀ k,v1.ownBlock=some k→w9.heap[k]?=w8.heap[k]?:=fun k hk=>g9.block k (by have:=V7 k hk;omega) (fun e=>by have:=hown k e.symm;have:=V7 k hk;have:=K6.size;omega)
 have R12:=R8.keep (w':=w12) (fun k hlt hk=>by
  rcases hk with rfl|hk
  ·exact (hs12 k hgn (by omega)).trans (g9.block k hlt (fun e=>hap e.symm))
  ·exact (hs12 k (by have:=V7 k hk;omega) (by have:=V7 k hk;omega)).trans (hv9 k hk))
 have K12:Keep (Lv w.heap.size g [.slice av r.l.length cv]) w w12:=by
  refine (K8.mono (P:=Lv w.heap.size g [.slice av r.l.length cv]) (fun k hk=>⟨hk.1,hk.2.1,fun u hu=>by cases hu⟩)).trans (Q:=fun k=>k<w.heap.size∧(Value.slice av r.l.length cv).ownBlock≠some k) ⟨b12.os.trans (o10.1.trans g9.os),b12.tape.trans (o10.2.1.trans g9.tape),b12.output.trans (o10.2.2.trans g9.output),by omega,fun k hk=>(hs12 k (by have:=hk.1;omega) (by have:=hk.1;omega)).trans (g9.block k (by have:=hk.1;omega) (fun e=>hk.2 e.symm))⟩ (fun k hk=>⟨hk.1,hk.2.2 _ (by simp)⟩)
 have h12:HasV 2 w12 (.slice a5 r.l.length c5) r.l.length (comV r.l):=o9.keep fun k hk hlt=>hs12 k (by rcases n9' k hk with e|e;have:=hown k e;omega;omega) (by rcases n9' k hk with e|e;have:=hown k e;omega;omega)
 exact ⟨_,0,rfl,voidN.withLead r.l,r1',v1,_,lead_M (R:=fun _=>False) (IsN.shut (ComsR.nil _ _) (ComsR.nil _ _) (NodesR.nil _ _):IsN (fun _=>False) w12 voidN (headC voidN.h (.slice none 0 0) (.slice none 0 0) (.slice none 0 0))) R12 h12 (fun k hk=>hk.elim) (fun k hk=>by
  rcases n9' k hk with e|e
  ·exact ⟨fun e2=>hap (by rw[e,e2]),fun e2=>by have:=V7 k e2;have:=hown k e;have:=K6.size;omega,.inr e⟩
  ·exact ⟨by omega,fun e2=>by have:=V7 k e2;omega,.inl (by omega)⟩) N7 K12 ⟨rfl,rfl⟩⟩
set_option maxRecDepth 100000 in
set_option maxHeartbeats 3200000 in
theorem flValue_node (w0:World) (hEv:Env w0) (g:Nat) (hg0:w0.heap.size≤g) (s:ByteArray) (hs:s.size≤10000) (n:Int) (col:Nat→Nat→Rd (NT × Nat)→Prop) (hcol:CollC w0 g s n col) (deep:Nat) (hd:deep≤100) (r:Rst) (v:Value) (k0 k1 k2 k3:Int) (k4 k5 k6:ByteArray) (xa:Option Addr) (xb xc:Nat) (ya:Option Addr) (yb yc:Nat) (za:Option Addr) (zb zc:Nat) (k7:Bool) (k8:ByteArray) (o:Rd (NT × Rst)) (w:World) (h:RS g s n r v w) (hB:Bs w0 w [v]) (hsg:signB s r.at' (decide (k0=3∨k0=4∨k1=2∨k1=3))=true) (b:Rst) (ho1:skipP s n (fresh (r.at'+1)) (.ok b)) (hla:lacksB s b.at'=false) (oc:Rd (NT × Rst)) (hoc:nodeP s n col deep b.at' oc) (ho:o=rdMap (fun y=>(y.1.withLead (r.l++b.l++y.1.h.lead),y.2)) oc) :
  Calls Tryz.prog 29 #[.pointer (some ⟨g,0,none⟩),.agg #[.int .i64 k0,.int .i64 k1,.int .i64 k2,.int .i64 k3,.string k4,.string k5,.string k6,.slice xa xb xc,.slice ya yb yc,.slice za zb zc,.bool k7,.string k8],.int .i64 (deep:Int)] w fun e w'=>NodePost g s n w [v] o e w':=by
 subst ho
 have hg:=h.cells.lt
 obtain ⟨W1,hW1⟩:∃ W1,W1=(w.alloc (.cells #[.int .i64 k0,.int .i64 k1,.int .i64 k2,.int .i64 k3,.string k4,.string k5,.string k6,.slice xa xb xc,.slice ya yb yc,.slice za zb zc,.bool k7,.string k8] 30)).alloc (.cells #[.int .i64 0,.int .i64 0,.int .i64 0,.int .i64 0,.string ⟨#[]⟩,.string ⟨#[]⟩,.string ⟨#[]⟩,.slice none 0 0,.slice none 0 0,.slice none 0 0,.bool false,.string ⟨#[]⟩] 30):=⟨_,rfl⟩
 have u1:W1.heap.size=w.heap.size+2:=by rw[hW1];simp
 have b1:Below w.heap.size w W1:=by rw[hW1];exact ((Below.refl _ _).alloc (Nat.le_refl _) _).alloc (by simp) _
 have rk:W1.heap[w.heap.size]?=some (.cells #[.int .i64 k0,.int .i64 k1,.int .i64 k2,.int .i64 k3,.string k4,.string k5,.string k6,.slice xa xb xc,.slice ya yb yc,.slice za zb zc,.bool k7,.string k8] 30 (0,0)):=by rw[hW1];exact (heap_alloc_old _ _ (by simp)).trans (heap_alloc_new w _)
 have ra:W1.heap[w.heap.size+1]?=some (.cells #[.int .i64 0,.int .i64 0,.int .i64 0,.int .i64 0,.string ⟨#[]⟩,.string ⟨#[]⟩,.string ⟨#[]⟩,.slice none 0 0,.slice none 0 0,.slice none 0 0,.bool false,.string ⟨#[]⟩] 30 (0,0)):=by
  rw[hW1]
  have:=heap_alloc_new (w.alloc (.cells #[.int .i64 k0,.int .i64 k1,.int .i64 k2,.int .i64 k3,.string k4,.string k5,.string k6,.slice xa xb xc,.slice ya yb yc,.slice za zb zc,.bool k7,.string k8] 30)) (.cells #[.int .i64 0,.int .i64 0,.int .i64 0,.int .i64 0,.string ⟨#[]⟩,.string ⟨#[]⟩,.string ⟨#[]⟩,.slice none 0 0,.slice none 0 0,.slice none 0 0,.bool false,.string ⟨#[]⟩] 30)
  simpa using this
 have R1:=h.below b1 (Nat.le_refl _)
 have HW:=Lib.hid hW1
 have CE:∀ W,Calls Tryz.prog 30 #[] W fun e w'=>e=.returned (.agg #[.int .i64 1,.int .i64 1,.int .i64 (-1),.int .i64 0,.string ⟨#[]⟩,.string ⟨#[]⟩,.string ⟨#[]⟩,.slice none 0 0,.slice none 0 0,.slice none 0 0,.bool false,.string ⟨#[]⟩])∧Below W.heap.size W w':=fun W=>flEmpty_is W
 clear hW1
 go_enter Tryz.func29,Tryz.ntmps29
 go_upto_region 1 with fail
 rw[←HW.out]
 go_upto_region 2 with (go_at_call 30;refine (CE _).mono ?_;rintro e w2 ⟨rfl,b2⟩)
 have sz2:=b2.size
 obtain ⟨w3,hw3⟩:∃ w3,w3=w2.alloc (.cells #[.int .i64 1,.int .i64 1,.int .i64 (-1),.int .i64 0,.string ⟨#[]⟩,.string ⟨#[]⟩,.string ⟨#[]⟩,.slice none 0 0,.slice none 0 0,.slice none 0 0,.bool false,.string ⟨#[]⟩] 30):=⟨_,rfl⟩
 have z3:w3.heap.size=w2.heap.size+1:=by rw[hw3];simp
 have b3:Below w2.heap.size w2 w3:=by rw[hw3];exact (Below.refl _ _).alloc (Nat.le_refl _) _
 have r3:w3.heap[w2.heap.size]?=some (.cells #[.int .i64 1,.int .i64 1,.int .i64 (-1),.int .i64 0,.string ⟨#[]⟩,.string ⟨#[]⟩,.string ⟨#[]⟩,.slice none 0 0,.slice none 0 0,.slice none 0 0,.bool false,.string ⟨#[]⟩] 30 (0,0)):=by rw[hw3];exact heap_alloc_new w2 _
 have R3:=(R1.below b2 (Nat.le_refl _)).below b3 (Nat.le_refl _)
 have rk3:=(b3.block w.heap.size (by omega)).trans ((b2.block w.heap.size (by omega)).trans rk)
 have ra3:=(b3.block (w.heap.size+1) (by omega)).trans ((b2.block (w.heap.size+1) (by omega)).trans ra)
 have b03:Below w.heap.size w w3:=b1.trans ((b2.mono (by omega)).trans (b3.mono (by omega)))
 rw[←hw3]
 clear hw3
 obtain ⟨nb,hnb⟩:∃ nb,nb=w2.heap.size:=⟨_,rfl⟩
 rw[←hnb] at r3 z3 ⊢
 have hgn:g≠nb:=by omega
 have han:w.heap.size+1<nb:=by omega
 have HNB:=Lib.hid hnb
 clear hnb b1 b2 b3 rk ra R1 CE
 have qk3:∀ j,w3.cell? ⟨w.heap.size,j,none⟩=(#[.int .i64 k0,.int .i64 k1,.int .i64 k2,.int .i64 k3,.string k4,.string k5,.string k6,.slice xa xb xc,.slice ya yb yc,.slice za zb zc,.bool k7,.string k8]:Array Value)[j]?:=fun j=>cell_of_row w3 _ j _ _ _ rk3
 have CL:=flColon_x true g s n r.at' (r.fin:Int) v r.same k0 k1 k2 k3 k4 k5 k6 xa xb xc ya yb yc za zb zc k7 k8 w3 R3.cells (by omega) hsg
 go_wp2_with fail
 refine CL.mono ?_
 rintro e w4 ⟨rfl,b4⟩
 have sz4:=b4.size
 have R4:=R3.below b4 (Nat.le_refl _)
 have r4:=(b4.block nb (by omega)).trans r3
 have ra4:=(b4.block (w.heap.size+1) (by omega)).trans ra3
 have b04:=b03.trans (b4.mono (by omega))
 clear CL R3 r3 ra3 rk3 qk3 b03 b4
 have hown:=h.has.own
 have hap:=h.apart
 have hwf:=h.ok
 have HV:=Lib.hid h.has
 obtain ⟨av,cv,rfl⟩:=h.has.form
 have A4:=R4.cells
 have hg4:=A4.lt
 clear h R4
 have K4:Keep (Lv w.heap.size g []) w w4:=Keep.of b04 (fun k hk=>hk.1)
 have H4:=HV.out.below b04 (Nat.le_refl _)
 have hlt:=sign_lt hsg
 go_upto_region 7 with (first
  | (go_at_call 20;refine (flTake_is g s n _ _ av r.l.length cv r.same _ A4).mono ?_;rintro e w5 ⟨rfl,h5,g5,z5⟩;have c5:=h5.cell;have iw:(0:Int)≤(r.at':Int):=by omega)
  | (go_at_call 18;refine (flPass_is g s n _ _ ((r.at':Int)+1) (.slice none 0 0) false _ h5).mono ?_;rintro e w6 ⟨rfl,h6,g6,z6⟩;have R6:RS g s n (fresh (r.at'+1)) (.slice none 0 0) w6:=RS.bare (by rw[show ((r.at'+1:Nat):Int)=(r.at':Int)+1 by omega];exact h6) (Nat.le_refl _) hlt;have K6:Keep (Lv w.heap.size g []) w w6:=K4.trans (Q:=fun k=>k<w4.heap.size∧k≠g) ⟨g6.os.trans g5.os,g6.tape.trans g5.tape,g6.output.trans g5.output,by omega,fun k hk=>(g6.block k (by omega) (fun e=>hk.2 (by injection e))).trans (g5.block k hk.1 (fun e=>hk.2 (by injection e)))⟩ (fun k hk=>⟨Nat.lt_of_lt_of_le hk.1 K4.size,hk.2.1⟩);have H6:=(H4.grown g5 (.inr hap)).grown g6 (.inr hap);have r6:=(g6.block nb (by omega) (fun e=>hgn (by injection e with e;exact e.symm))).trans ((g5.block nb (by omega) (fun e=>hgn (by injection e with e;exact e.symm))).trans r4);have ra6:=(g6.block (w.heap.size+1) (by omega) (fun e=>absurd hg (by injection e with e;omega))).trans ((g5.block (w.heap.size+1) (by omega) (fun e=>absurd hg (by injection e with e;omega))).trans ra4))
  | (go_at_call 19;refine (flSkip_of g s n (fresh (r.at'+1)) (.slice none 0 0) (.ok b) _ R6 hs ho1).mono ?_;rintro e w7 ⟨c7,v1,r1',rfl,R7,n7,K67,res7⟩;obtain ⟨rfl,rfl⟩:=res7))
 have N7:NewV w.heap.size [.slice av r.l.length cv] v1:=(n7.trans K6.size (one_mem NewV.none):NewV w.heap.size [] v1).trans (Nat.le_refl _) (fun u hu=>by cases hu)
 have V7:∀ k,v1.ownBlock=some k→w6.heap.size≤k∧k<w7.heap.size:=fun k hk=>⟨(by rcases n7 k hk with h|⟨u,hu,h⟩;exact h;rw[List.mem_singleton] at hu;subst hu;cases h),R7.has.own k hk⟩
 have sz67:=K67.size
 have hm67:∀ k,k<w6.heap.size→k≠g→w7.heap[k]?=w6.heap[k]?:=fun k hk hne=>K67.block k ⟨hk,hne,fun u hu e=>by rw[List.mem_singleton] at hu;subst hu;cases e⟩
 have K7:Keep (Lv w.heap.size g []) w w7:=K6.trans K67 (Lv.step K6.size (one_mem NewV.none))
 have H7:HasV 2 w7 (.slice av r.l.length cv) r.l.length (comV r.l):=H6.keep fun k hk hlt=>hm67 k hlt (fun e=>hap (by rw[hk,e]))
 have r7:=(hm67 nb (by omega) (fun e=>hgn e.symm)).trans r6
 have ra7:=(hm67 (w.heap.size+1) (by omega) (by omega)).trans ra6
 have CN:=flEnds_is false g s n r1'.at' (r1'.fin:Int) v1 r1'.same w7 R7.cells (by omega) hla
 go_wp2_with fail
 refine CN.mono ?_
 rintro e w7' ⟨rfl,j1,rfl⟩
 obtain ⟨w8,hw8⟩:∃ w8,w8=w7.drewN j1:=⟨_,rfl⟩
 have R8:=R7.drewN j1
 have r8:(w7.drewN j1).heap[nb]?=_:=r7
 have ra8:(w7.drewN j1).heap[w.heap.size+1]?=_:=ra7
 have K8:=K7.drewN j1
 have H8:HasV 2 (w7.drewN j1) (.slice av r.l.length cv) r.l.length (comV r.l):=H7.keep (fun _ _ _=>rfl)
 have z8:(w7.drewN j1).heap.size=w7.heap.size:=rfl
 rw[←hw8] at R8 r8 ra8 K8 H8 z8 ⊢
 clear hw8 CN
 have hwf8:=R8.ok
 have H1:=R8.has
 have A8:=R8.cells
 have ap8:=R8.apart
 have hrl:r.l.length≤10000:=by have:=hwf.few;have:=hwf.top;omega
 have hrl1:r1'.l.length≤10000:=by have:=hwf8.few;have:=hwf8.top;omega
 have sK6:=K6.size
 obtain ⟨a1,c1',rfl⟩:=H1.form
 obtain ⟨X,hX⟩:∃ X,r.l++r1'.l=X:=⟨_,rfl⟩
 have hXl:X.length≤20000:=by rw[←hX,List.length_append];omega
 have HX:=Lib.hid hX
 have HR8:=Lib.hid R8
 clear R8 R7 H7 K7 r7 ra7 hX hlt
 go_upto_region 10 with (first
  | (go_at_call 20;refine (flTake_is g s n _ _ a1 r1'.l.length c1' r1'.same _ A8).mono ?_;rintro e w9 ⟨rfl,h9,g9,z9⟩;have H9:=H8.grown g9 (.inr hap);have X9:=(H1.grown g9 (.inr ap8)).toComs;have r9:=(g9.block nb (by omega) (fun e=>hgn (by injection e with e;exact e.symm))).trans r8;have ra9:=(g9.block (w.heap.size+1) (by omega) (fun e=>absurd hg (by injection e with e;omega))).trans ra8)
  | (at_builtin;refine appendH rfl _ _ rfl _ (.slice av r.l.length cv) (.slice a1 r1'.l.length c1') r.l r1'.l rfl rfl H9 X9 (by omega) ?_;intro v5 w10 o10 g10 n10;rw[HX.out] at o10;obtain ⟨a5,c5,rfl⟩:=o10.form;have h10:=h9.grown g10 hap;have R10:=RS.bare h10 hwf8.le hwf8.top;have sz10:=g10.size;have r10:=(g10.block nb (by omega) (fun e=>by have:=hown nb e.symm;omega)).trans r9;have ra10:=(g10.block (w.heap.size+1) (by omega) (fun e=>by have:=hown _ e.symm;omega)).trans ra9;have K10:Keep (Lv w.heap.size g [.slice av r.l.length cv]) w w10:=(K8.mono (P:=Lv w.heap.size g [.slice av r.l.length cv]) (fun k hk=>⟨hk.1,hk.2.1,fun u hu=>by cases hu⟩)).trans (Q:=fun k=>k<w.heap.size∧k≠g∧(Value.slice av r.l.length cv).ownBlock≠some k) ⟨g10.os.trans g9.os,g10.tape.trans g9.tape,g10.output.trans g9.output,by omega,fun k hk=>(g10.block k (by have:=hk.1;omega) (fun e=>hk.2.2 e.symm)).trans (g9.block k (by have:=hk.1;omega) (fun e=>hk.2.1 (by injection e)))⟩ (fun k hk=>⟨hk.1,hk.2.1,hk.2.2 _ (by simp)⟩);have CNo:=flNode_is w0 hEv g hg0 s hs n col hcol deep r1'.at' r1'.fin oc w10 hd R10 (hB.next hg0 K10 (fun u hu=>by cases hu)) hoc;have N10:∀ k,(Value.slice a5 X.length c5).ownBlock=some k→((Value.slice av r.l.length cv).ownBlock=some k∨k=w9.heap.size):=fun k hk=>(by rcases n10 with e|e;exact .inl (e.symm.trans hk);rw[e] at hk;injection hk with hk;exact .inr hk.symm))
  | (go_at_call 26;refine CNo.mono ?_;rintro e w11 ⟨cs,c11,rfl,x,rM,vM,R,M⟩;have r11:=(M.keep.block nb ⟨by omega,fun e=>hgn e.symm,fun v hv=>by cases hv⟩).trans r10;have ra11:=(M.keep.block (w.heap.size+1) ⟨by omega,by omega,fun v hv=>by cases hv⟩).trans ra10;have q11:∀ j,w11.cell? ⟨nb,j,none⟩=(#[.int .i64 1,.int .i64 1,.int .i64 (-1),.int .i64 0,.string ⟨#[]⟩,.string ⟨#[]⟩,.string ⟨#[]⟩,.slice none 0 0,.slice none 0 0,.slice none 0 0,.bool false,.string ⟨#[]⟩]:Array Value)[j]?:=fun j=>cell_of_row w11 _ j _ _ _ r11;have f11:∀ j,w11.frozen? ⟨nb,j,none⟩=false:=fun j=>frozen_of_row w11 _ j _ _ r11;obtain ⟨i0,i1,i2,i3,s4,s5,s6,ak,nk,ck,al,nl,cl,af,nf,cf,b10,s11,rfl,_,hld,hnl⟩:=M.node.cellsK;have HM:=Lib.hid M;have HLD:=Lib.hid hld;clear M hld hnl))
 obtain ⟨w12,hw12⟩:∃ w12,w12=((((((((((((w11.setCell ⟨nb,0,none⟩ (.int .i64 i0)).setCell ⟨nb,1,none⟩ (.int .i64 i1)).setCell ⟨nb,2,none⟩ (.int .i64 i2)).setCell ⟨nb,3,none⟩ (.int .i64 i3)).setCell ⟨nb,4,none⟩ (.string s4)).setCell ⟨nb,5,none⟩ (.string s5)).setCell ⟨nb,6,none⟩ (.string s6)).setCell ⟨nb,7,none⟩ (.slice ak nk ck)).setCell ⟨nb,8,none⟩ (.slice al nl cl)).setCell ⟨nb,9,none⟩ (.slice af nf cf)).setCell ⟨nb,10,none⟩ (.bool b10)).setCell ⟨nb,11,none⟩ (.string s11)):=⟨_,rfl⟩
 have r12:w12.heap[nb]?=some (.cells #[.int .i64 i0,.int .i64 i1,.int .i64 i2,.int .i64 i3,.string s4,.string s5,.string s6,.slice ak nk ck,.slice al nl cl,.slice af nf cf,.bool b10,.string s11] 30 (0,0)):=by rw[hw12];exact row12_set w11 (hg:=r11) ..
 have z12:w12.heap.size=w11.heap.size:=by rw[hw12,row12_size]
 have s12:∀ k,¬ k=nb→w12.heap[k]?=w11.heap[k]?:=fun k hk=>by rw[hw12];exact row12_other w11 _ k hk ..
 have b12':Below 0 w11 w12:=by rw[hw12];exact row12_below w11 _ _ (Nat.zero_le _) _ _ _ _ _ _ _ _ _ _ _ _
 have ra12:=(s12 (w.heap.size+1) (by omega)).trans ra11
 rw[←hw12]
 clear hw12 q11 f11
 have szM:=HM.out.keep.size
 have hownM:=HM.out.st.has.own
 have hnewM:∀ k,vM.ownBlock=some k→w10.heap.size≤k:=fun k hk=>(by rcases HM.out.new k hk with h|⟨u,hu,_⟩;exact h;cases hu)
 have hRM:∀ k,R k→w10.heap.size≤k:=fun k hk=>(by rcases HM.out.own k hk with h|⟨u,hu,_⟩;exact h;cases hu)
 have hown5:=o10.own
 have H12:HasV 2 w12 (.slice a5 X.length c5) X.length (comV X):=o10.keep fun k hk hlt=>(s12 k (by rcases N10 k hk with e|e;have:=hown k e;omega;omega)).trans (HM.out.keep.block k ⟨hlt,(by rcases N10 k hk with e|e;exact fun e2=>hap (by rw[e,e2]);omega),fun u hu=>by cases hu⟩)
 have L12:ComsR R w12 (.slice al nl cl) x.h.lead:=HLD.out.frame fun b hb=>⟨hb,s12 b (by have:=hRM b hb;omega)⟩
 have q12:∀ j,w12.cell? ⟨nb,j,none⟩=(#[.int .i64 i0,.int .i64 i1,.int .i64 i2,.int .i64 i3,.string s4,.string s5,.string s6,.slice ak nk ck,.slice al nl cl,.slice af nf cf,.bool b10,.string s11]:Array Value)[j]?:=fun j=>cell_of_row w12 _ j _ _ _ r12
 have hxl:x.h.lead.length≤40000:=HM.out.few rfl
 have HL12:=Lib.hid L12
 have HH12:=Lib.hid H12
 obtain ⟨Y,hY⟩:∃ Y,X++x.h.lead=Y:=⟨_,rfl⟩
 have HY:=Lib.hid hY
 have hane:w.heap.size+1≠nb:=by omega
 clear L12 H12 hY
 go_wp2_with (at_builtin;refine appendH rfl _ _ rfl R (.slice a5 X.length c5) (.slice al nl cl) X x.h.lead rfl rfl HH12.out HL12.out (by omega) ?_;intro v6 w13 o13 g13 n13;rw[HY.out] at o13;obtain ⟨a6,c6,rfl⟩:=o13.form;have r13:=(g13.block nb (by omega) (fun e=>by rcases N10 nb e.symm with e|e;have:=hown nb e;omega;omega)).trans r12;have ra13:=(g13.block (w.heap.size+1) (by omega) (fun e=>by rcases N10 _ e.symm with e|e;have:=hown _ e;omega;omega)).trans ra12;have q13:∀ j,w13.cell? ⟨nb,j,none⟩=(#[.int .i64 i0,.int .i64 i1,.int .i64 i2,.int .i64 i3,.string s4,.string s5,.string s6,.slice ak nk ck,.slice al nl cl,.slice af nf cf,.bool b10,.string s11]:Array Value)[j]?:=fun j=>cell_of_row w13 _ j _ _ _ r13;have f13:∀ j,w13.frozen? ⟨nb,j,none⟩=false:=fun j=>frozen_of_row w13 _ j _ _ r13;have qa13:∀ j,w13.cell? ⟨w.heap.size+1,j,none⟩=(#[.int .i64 0,.int .i64 0,.int .i64 0,.int .i64 0,.string ⟨#[]⟩,.string ⟨#[]⟩,.string ⟨#[]⟩,.slice none 0 0,.slice none 0 0,.slice none 0 0,.bool false,.string ⟨#[]⟩]:Array Value)[j]?:=fun j=>cell_of_row w13 _ j _ _ _ ra13;have fa13:∀ j,w13.frozen? ⟨w.heap.size+1,j,none⟩=false:=fun j=>frozen_of_row w13 _ j _ _ ra13)
 have sz13:=g13.size
 obtain ⟨w14,hw14⟩:∃ w14,w14=w13.setCell ⟨nb,8,none⟩ (.slice a6 Y.length c6):=⟨_,rfl⟩
 have s14:∀ k,k≠nb→w14.heap[k]?=w13.heap[k]?:=fun k hk=>by rw[hw14,heap_setCell_other _ _ _ _ hk]
 have z14:w14.heap.size=w13.heap.size:=by rw[hw14];simp[World.setCell]
 have o14:w14.os=w13.os∧w14.tape=w13.tape∧w14.output=w13.output:=by rw[hw14];exact ⟨rfl,rfl,rfl⟩
 have ra14:=(s14 (w.heap.size+1) (by omega)).trans ra13
 rw[←hw14]
 clear hw14 q13 f13 qa13 fa13 q12
 obtain ⟨w15,hw15⟩:∃ w15,w15=((((((((((((w14.setCell ⟨w.heap.size+1,0,none⟩ (.int .i64 i0)).setCell ⟨w.heap.size+1,1,none⟩ (.int .i64 i1)).setCell ⟨w.heap.size+1,2,none⟩ (.int .i64 i2)).setCell ⟨w.heap.size+1,3,none⟩ (.int .i64 i3)).setCell ⟨w.heap.size+1,4,none⟩ (.string s4)).setCell ⟨w.heap.size+1,5,none⟩ (.string s5)).setCell ⟨w.heap.size+1,6,none⟩ (.string s6)).setCell ⟨w.heap.size+1,7,none⟩ (.slice ak nk ck)).setCell ⟨w.heap.size+1,8,none⟩ (.slice a6 Y.length c6)).setCell ⟨w.heap.size+1,9,none⟩ (.slice af nf cf)).setCell ⟨w.heap.size+1,10,none⟩ (.bool b10)).setCell ⟨w.heap.size+1,11,none⟩ (.string s11)):=⟨_,rfl⟩
 have r15:w15.heap[w.heap.size+1]?=some (.cells #[.int .i64 i0,.int .i64 i1,.int .i64 i2,.int .i64 i3,.string s4,.string s5,.string s6,.slice ak nk ck,.slice a6 Y.length c6,.slice af nf cf,.bool b10,.string s11] 30 (0,0)):=by rw[hw15];exact row12_set w14 (hg:=ra14) ..
 have b15:Below (w.heap.size+1) w14 w15:=by rw[hw15];exact row12_below w14 _ _ (Nat.le_refl _) _ _ _ _ _ _ _ _ _ _ _ _
 have z15:w15.heap.size=w14.heap.size:=by rw[hw15,row12_size]
 have s15:∀ k,¬ k=w.heap.size+1→w15.heap[k]?=w14.heap[k]?:=fun k hk=>by rw[hw15];exact row12_other w14 _ k hk ..
 rw[←hw15]
 clear hw15
 have hcz:∀ j,w15.cell? ⟨w.heap.size+1,j,none⟩=(#[.int .i64 i0,.int .i64 i1,.int .i64 i2,.int .i64 i3,.string s4,.string s5,.string s6,.slice ak nk ck,.slice a6 Y.length c6,.slice af nf cf,.bool b10,.string s11]:Array Value)[j]?:=fun j=>cell_of_row w15 _ j _ _ _ r15
 refine bodyPost_ret (v:=.tuple #[.agg #[.int .i64 i0,.int .i64 i1,.int .i64 i2,.int .i64 i3,.string s4,.string s5,.string s6,.slice ak nk ck,.slice a6 Y.length c6,.slice af nf cf,.bool b10,.string s11],.int .i64 c11]) (by simp[results,Tryz.results29,go_sem,hcz]) rfl ?_
 have M:=HM.out
 have n13':∀ k,(Value.slice a6 Y.length c6).ownBlock=some k→(Value.slice a5 X.length c5).ownBlock=some k∨k=w12.heap.size:=fun k hk=>(by rcases n13 with e|e;exact .inl (e.symm.trans hk);rw[e] at hk;injection hk with hk;exact .inr hk.symm)
 have hs15:∀ k,k≠nb→k≠w.heap.size+1→w15.heap[k]?=w13.heap[k]?:=fun k k1 k2=>(s15 k k2).trans (s14 k k1)
 have far:∀ k,w10.heap.size≤k→k<w11.heap.size→w15.heap[k]?=w11.heap[k]?:=fun k k1 k2=>(hs15 k (by omega) (by omega)).trans ((g13.block k (by omega) (fun e=>by have:=hown5 k e.symm;omega)).trans (s12 k (by omega)))
 have R15:RSb g s n rM vM w15:=M.st.keep (fun k hlt hk=>by
  rcases hk with rfl|hk
  ·exact (hs15 k hgn (by omega)).trans ((g13.block k (by omega) (fun e=>by rcases N10 k e.symm with e|e;exact hap e;omega)).trans (s12 k (by omega)))
  ·exact far k (hnewM k hk) (hownM k hk))
 have N15:IsN R w15 x [.int .i64 i0,.int .i64 i1,.int .i64 i2,.int .i64 i3,.string s4,.string s5,.string s6,.slice ak nk ck,.slice al nl cl,.slice af nf cf,.bool b10,.string s11]:=IsN.frame (fun b hb=>⟨hb,far b (hRM b hb) (M.lt b hb)⟩) x _ M.node
 have h15:HasV 2 w15 (.slice a6 Y.length c6) Y.length (comV Y):=o13.keep fun k hk hlt=>hs15 k (by rcases n13' k hk with e|e;rcases N10 k e with e|e;have:=hown k e;omega;omega;omega) (by rcases n13' k hk with e|e;rcases N10 k e with e|e;have:=hown k e;omega;omega;omega)
 have K15:Keep (Lv w.heap.size g [.slice av r.l.length cv]) w w15:=K10.trans (Q:=fun k=>k<w.heap.size∧k≠g∧(Value.slice av r.l.length cv).ownBlock≠some k) ⟨b15.os.trans (o14.1.trans (g13.os.trans (b12'.os.trans M.keep.os))),b15.tape.trans (o14.2.1.trans (g13.tape.trans (b12'.tape.trans M.keep.tape))),b15.output.trans (o14.2.2.trans (g13.output.trans (b12'.output.trans M.keep.output))),by omega,fun k hk=>(hs15 k (by have:=hk.1;omega) (by have:=hk.1;omega)).trans ((g13.block k (by have:=hk.1;omega) (fun e=>by rcases N10 k e.symm with e|e;exact hk.2.2 e;have:=hk.1;omega)).trans ((s12 k (by have:=hk.1;omega)).trans (M.keep.block k ⟨by have:=hk.1;omega,hk.2.1,fun u hu=>by cases hu⟩)))⟩ (fun k hk=>⟨hk.1,hk.2.1,hk.2.2 _ (by simp)⟩)
 have hYe:Y=r.l++r1'.l++x.h.lead:=by rw[←HY.out,←HX.out]
 have hres:ResN (rdMap (fun y=>(y.1.withLead (r.l++r1'.l++y.1.h.lead),y.2)) oc) c11 (x.withLead Y) rM:=by
  have:=M.res
  cases oc with
  | ok y=>exact ⟨this.1,by show (y.1.withLead (r.l++r1'.l++y.1.h.lead),y.2)=_;rw[this.2,hYe]⟩
  | bad q k=>exact this
 exact ⟨_,c11,rfl,x.withLead Y,rM,vM,_,lead_Mb N15 R15 M.wfMap h15 (fun k hk=>⟨by have:=M.lt k hk;omega,(M.ne k hk).1,(M.ne k hk).2,by have:=hRM k hk;omega⟩) (fun k hk=>by
  rcases n13' k hk with e|e
  ·rcases N10 k e with e|e
   ·exact ⟨fun e2=>hap (by rw[e,e2]),fun e2=>by have:=hnewM k e2;have:=hown k e;omega,.inr e⟩
   ·exact ⟨by omega,fun e2=>by have:=hnewM k e2;have:=hown5 k (by assumption);omega,.inl (by omega)⟩
  ·exact ⟨by omega,fun e2=>by have:=hownM k e2;omega,.inl (by omega)⟩) (fun k hk=>.inl (by have:=hnewM k hk;omega)) K15 hres⟩
theorem flValue_is (w0:World) (hEv:Env w0) (g:Nat) (hg0:w0.heap.size≤g) (s:ByteArray) (hs:s.size≤10000) (n:Int) (col:Nat→Nat→Rd (NT × Nat)→Prop) (hcol:CollC w0 g s n col) (deep:Nat) (hd:deep≤100) (r:Rst) (v:Value) (k0 k1 k2 k3:Int) (k4 k5 k6:ByteArray) (xa:Option Addr) (xb xc:Nat) (ya:Option Addr) (yb yc:Nat) (za:Option Addr) (zb zc:Nat) (k7:Bool) (k8:ByteArray) (o:Rd (NT × Rst)) (w:World) (h:RS g s n r v w) (hB:Bs w0 w [v]) (key:NT) (hkey:nearN key=decide (k0=3∨k0=4∨k1=2∨k1=3)) (ho:valueP s n col key deep r o) :
  Calls Tryz.prog 29 #[.pointer (some ⟨g,0,none⟩),.agg #[.int .i64 k0,.int .i64 k1,.int .i64 k2,.int .i64 k3,.string k4,.string k5,.string k6,.slice xa xb xc,.slice ya yb yc,.slice za zb zc,.bool k7,.string k8],.int .i64 (deep:Int)] w fun e w'=>NodePost g s n w [v] o e w':=by
 unfold valueP at ho
 rw[hkey] at ho
 cases hsg:signB s r.at' (decide (k0=3∨k0=4∨k1=2∨k1=3)) with
 | false=>
  rw[hsg,if_neg (by decide)] at ho
  exact flValue_none g s hs n deep r v k0 k1 k2 k3 k4 k5 k6 xa xb xc ya yb yc za zb zc k7 k8 o w h hsg ho
 | true=>
  rw[hsg,if_pos rfl] at ho
  rcases ho with ⟨q,c,h1,rfl⟩|⟨b,h1,h2⟩
  ·exact flValue_bad g s hs n deep r v k0 k1 k2 k3 k4 k5 k6 xa xb xc ya yb yc za zb zc k7 k8 _ w h hsg q c h1 rfl
  ·cases hla:lacksB s b.at' with
   | true=>
    rw[hla,if_pos rfl] at h2
    exact flValue_lacks g s hs n deep r v k0 k1 k2 k3 k4 k5 k6 xa xb xc ya yb yc za zb zc k7 k8 o w h hsg b h1 hla h2
   | false=>
    rw[hla,if_neg (by decide)] at h2
    rcases h2 with ⟨q,c,h3,rfl⟩|⟨y,h3,rfl⟩
    ·exact flValue_node w0 hEv g hg0 s hs n col hcol deep hd r v k0 k1 k2 k3 k4 k5 k6 xa xb xc ya yb yc za zb zc k7 k8 _ w h hB hsg b h1 hla _ h3 rfl
    ·exact flValue_node w0 hEv g hg0 s hs n col hcol deep hd r v k0 k1 k2 k3 k4 k5 k6 xa xb xc ya yb yc za zb zc k7 k8 _ w h hB hsg b h1 hla _ h3 rfl
end Go.Proofs.YtncngeamdechmaaGreatDoor
