/- Parts of the proof, put together from smaller texts (blanks that Lean does not want are struck). Conditions: those that each theorem writes out. -/
import Derived.Deep.CutRange
import Derived.Test.YtncngeamdechmaaGreatDoorZ14
import Derived.Test.YtncngeamdechmaaGreatDoorZ30
import Derived.Test.YtncngeamdechmaaGreatDoorZ31
namespace Go.Proofs.YtncngeamdechmaaGreatDoor
open Go.RowKit
def EntC (w0:World) (g:Nat) (s:ByteArray) (n:Int) (F deep:Nat) (P:Coms→Nat→Rd (Coms × List NT × Rst)→Prop):Prop:=
 ∀ (p fin fb:Nat) (lv:Value) (lead:Coms) (o:Rd (Coms × List NT × Rst)) (w:World),RS g s n ⟨[],false,fin,p⟩ (.slice none 0 0) w→w.heap[fb]?=some (.cells #[.int .i64 (p:Int),lv,.slice none 0 0] 55 (0,0))→HasV 2 w lv lead.length (comV lead) →
  lv.ownBlock≠some g→lv.ownBlock≠some fb→fb≠g→lead.length≤20000→Bs w0 w [lv,blkV fb]→P lead p o →
  Calls Tryz.prog F #[.pointer (some ⟨g,0,none⟩),.pointer (some ⟨fb,0,none⟩),.int .i64 (deep:Int)] w fun e w'=>FldPost g s n fb (p:Int) w [lv,blkV fb] o e w'
def collO (kd:Int) (p:Nat) (oL:Rd (List NT × Coms × Nat)):Rd (NT × Rst):=rdMap (fun r=>(.mk ⟨kd,7,p,0,[],[],[],[],r.2.1,false,[]⟩ r.1,fresh r.2.2)) oL
def LoopI (s:ByteArray) (n:Int) (col:Nat→Nat→Rd (NT × Nat)→Prop) (seq:Bool) (cl deep:Nat) (kd:Int) (p:Nat) (o:Rd (NT × Rst)) (gk:Nat) (r:Rst) (kids:List NT) (c:Int):Prop:=
 (c=0→WFr s r∧kids.length≤2*r.at'∧s.size+1≤r.at'+gk∧∃ oL,o=collO kd p oL∧LoopP s n col seq cl deep oL r.at' r.l kids)∧(c≠0→o=.bad r.at' c)
theorem LoopP.inv {s:ByteArray} {n:Int} {col:Nat→Nat→Rd (NT × Nat)→Prop} {seq:Bool} {cl deep:Nat} {oL:Rd (List NT × Coms × Nat)} {p:Nat} {lead:Coms} {kids:List NT} (h:LoopP s n col seq cl deep oL p lead kids) :
  (isB s p cl=true∧oL=.ok (kids,lead,p+1))∨(isB s p cl=false∧∃ oE,(if seq=true then itemP s n col lead (deep+1) p else fieldP s n col lead (deep+1) p) oE∧((∃ q c,oE=.bad q c∧oL=.bad q c)∨∃ y oB,oE=.ok y∧behindP s n cl y.2.2 oB ∧
   ((∃ q c,oB=.bad q c∧oL=.bad q c)∨∃ b k m,oB=.ok b∧Abv s p k m∧LoopP s n col seq cl deep oL b.at' (left b.l b.same) (kids++nodesK seq p m y.1 (trailK b y.2.1))))):=by
 cases h with
 | done h1 h2=>exact .inl ⟨h1,h2⟩
 | bad h1 h2 h3=>
  refine .inr ⟨h1,?_⟩
  rcases h2 with ⟨q,c,h4,e⟩|⟨y,h4,h5⟩
  ·injection e with e1 e2;subst e1 e2
   exact ⟨_,h4,.inl ⟨_,_,rfl,h3⟩⟩
  ·rcases h5 with ⟨q,c,h6,e⟩|⟨b,h6,k,m,h7,e⟩
   ·injection e with e1 e2;subst e1 e2
    exact ⟨_,h4,.inr ⟨y,_,rfl,h6,.inl ⟨_,_,rfl,h3⟩⟩⟩
   ·cases e
 | go h1 h2 h3=>
  refine .inr ⟨h1,?_⟩
  rcases h2 with ⟨q,c,h4,e⟩|⟨y,h4,h5⟩
  ·cases e
  ·rcases h5 with ⟨q,c,h6,e⟩|⟨b,h6,k,m,h7,e⟩
   ·cases e
   ·injection e with e
    injection e with e1 e2
    injection e2 with e2 e3
    subst e1 e2 e3
    exact ⟨_,h4,.inr ⟨y,_,rfl,h6,.inr ⟨b,k,m,rfl,h7,h3⟩⟩⟩
theorem Keep.grown {w w':World} {g:Nat} (h:w.grownBy w' (some g)):Keep (fun k=>k<w.heap.size∧k≠g) w w':=⟨h.os,h.tape,h.output,h.size,fun k hk=>h.block k hk.1 (fun e=>by injection e with e;exact hk.2 e)⟩
theorem CollM.start {g:Nat} {s:ByteArray} {n kd:Int} {p:Nat} {w W W4 W5:World} {r5:Rst} {v5:Value} (hg:g<w.heap.size) (rn:W.heap[w.heap.size+1]?=some (.cells #[.int .i64 kd,.int .i64 7,.int .i64 (p:Int),.int .i64 0,.string ⟨#[]⟩,.string ⟨#[]⟩,.string ⟨#[]⟩,.slice none 0 0,.slice none 0 0,.slice none 0 0,.bool false,.string ⟨#[]⟩] 30 (0,0))) (ra:W.heap[w.heap.size]?=some (.cells #[.int .i64 0,.int .i64 0,.int .i64 0,.int .i64 0,.string ⟨#[]⟩,.string ⟨#[]⟩,.string ⟨#[]⟩,.slice none 0 0,.slice none 0 0,.slice none 0 0,.bool false,.string ⟨#[]⟩] 30 (0,0)))
  (hK:Keep (Lv w.heap.size g []) w W) (g4:W.grownBy W4 (some g)) (R5:RSb g s n r5 v5 W5) (N5:NewV W4.heap.size [.slice none 0 0] v5) (K5:Keep (Lv W4.heap.size g [.slice none 0 0]) W4 W5):CollM g s n kd p w W5 r5 v5 [] (.slice none 0 0) [] (fun _=>False):=by
 have hz:w.heap.size+1<W.heap.size:=(Array.getElem?_eq_some_iff.1 rn).1
 have z4:=g4.size
 have hn:∀ (k:Nat),∀ u∈[Value.slice none 0 0],u.ownBlock≠some k:=fun k u hu e=>by rw[List.mem_singleton] at hu;subst hu;cases e
 have stay:∀ k,k<W.heap.size→k≠g→W5.heap[k]?=W.heap[k]?:=fun k h1 h2=>(K5.block k ⟨by omega,h2,hn k⟩).trans ((Keep.grown g4).block k ⟨h1,h2⟩)
 refine ⟨(stay _ (by omega) (by omega)).trans rn,(stay _ (by omega) (by omega)).trans ra,R5,HasV.nil 12 _,rfl,(hK.trans (Keep.grown g4) (fun k hk=>⟨by have:=hk.1;omega,hk.2.1⟩)).trans K5 (fun k hk=>⟨by have:=hk.1;omega,hk.2.1,hn k⟩),fun k e=>?_,fun k e=>(by cases e),fun k hk=>hk.elim⟩
 rcases N5 k e with h|⟨u,hu,h⟩
 ·omega
 ·exact absurd h (hn k u hu)
structure TakeM (g:Nat) (s:ByteArray) (n:Int) (r:Rst) (v:Value) (w3 wq:World):Prop where
 st:RSb g s n ⟨[],false,r.fin,r.at'⟩ (.slice none 0 0) wq
 ent:wq.heap[w3.heap.size]?=some (.cells #[.int .i64 (r.at':Int),v,.slice none 0 0] 55 (0,0))
 keep:Keep (fun k=>k<w3.heap.size∧k≠g) w3 wq
theorem TakeM.i {g:Nat} {s:ByteArray} {n:Int} {r:Rst} {v:Value} {w3 w4:World} {W:World} (g4:W.grownBy w4 (some g)) (hW:W.heap=w3.heap∧W.os=w3.os∧W.tape=w3.tape∧W.output=w3.output) (hg:g<w3.heap.size) (A4:FlAt g s n (r.at':Int) (r.fin:Int) (.slice none 0 0) false w4) (z4:w4.heap.size=W.heap.size) :
  TakeM g s n r v w3 (w4.alloc (.cells #[.int .i64 (r.at':Int),v,.slice none 0 0] 55)):=by
 have z:w4.heap.size=w3.heap.size:=by rw[z4,hW.1]
 have o:∀ k,k<w3.heap.size→(w4.alloc (.cells #[.int .i64 (r.at':Int),v,.slice none 0 0] 55)).heap[k]?=w4.heap[k]?:=fun k hk=>heap_alloc_old _ _ (by omega)
 refine ⟨⟨(o g hg).trans A4,HasV.nil 2 _,(fun e=>by cases e)⟩,by rw[←z];exact heap_alloc_new w4 _,⟨g4.os.trans hW.2.1,g4.tape.trans hW.2.2.1,g4.output.trans hW.2.2.2,by simp;omega,fun k hk=>?_⟩⟩
 exact (o k hk.1).trans (((Keep.grown g4).block k ⟨by rw[hW.1];exact hk.1,hk.2⟩).trans (by rw[hW.1]))
theorem TakeM.ii {g:Nat} {s:ByteArray} {n:Int} {r:Rst} {v:Value} {w3 w4:World} {W:World} (g4:W.grownBy w4 (some g)) (ob:Obj) (hW:W.heap=(w3.alloc ob).heap∧W.os=w3.os∧W.tape=w3.tape∧W.output=w3.output) (hg:g<w3.heap.size) (A4:FlAt g s n (r.at':Int) (r.fin:Int) (.slice none 0 0) false w4) (c0 c1 c2:Value)
  (e4:w4.heap[w3.heap.size]?=some (.cells #[c0,c1,c2] 55 (0,0))) :
  TakeM g s n r v w3 (((w4.setCell ⟨w3.heap.size,0,none⟩ (.int .i64 (r.at':Int))).setCell ⟨w3.heap.size,1,none⟩ v).setCell ⟨w3.heap.size,2,none⟩ (.slice none 0 0)):=by
 have o:∀ k,k≠w3.heap.size→(((w4.setCell ⟨w3.heap.size,0,none⟩ (.int .i64 (r.at':Int))).setCell ⟨w3.heap.size,1,none⟩ v).setCell ⟨w3.heap.size,2,none⟩ (.slice none 0 0)).heap[k]?=w4.heap[k]?:=fun k hk=>by
  rw[heap_setCell_other _ _ _ _ hk,heap_setCell_other _ _ _ _ hk,heap_setCell_other _ _ _ _ hk]
 have z:w3.heap.size<w4.heap.size:=(Array.getElem?_eq_some_iff.1 e4).1
 refine ⟨⟨(o g (by omega)).trans A4,HasV.nil 2 _,(fun e=>by cases e)⟩,heap_setCell_same _ _ 2 _ _ _ (heap_setCell_same _ _ 1 _ _ _ (heap_setCell_same _ _ 0 _ _ _ e4)),⟨g4.os.trans hW.2.1,g4.tape.trans hW.2.2.1,g4.output.trans hW.2.2.2,by simp[World.setCell];omega,fun k hk=>?_⟩⟩
 exact (o k (by have:=hk.1;omega)).trans (((Keep.grown g4).block k ⟨by rw[hW.1];simp;have:=hk.1;omega,hk.2⟩).trans (by rw[hW.1];exact heap_alloc_old _ _ hk.1))
section
variable {g:Nat} {s:ByteArray} {n kd:Int} {p:Nat} {w w3 wc wB wD wE wF:World} {r rE rB rT:Rst} {v vE vB vT lv kv:Value} {kids ks:List NT} {lead:Coms} {cs:List Value} {R R' R2:Nat→Prop} {kb m cap:Nat} {arr:Array Value}
theorem CollM.entry (C:CollM g s n kd p w w3 r v kids kv cs R) (hg:g<w.heap.size) (T:TakeM g s n r v w3 wc) (RE:RSb g s n rE vE wB) (NE:NewV wc.heap.size [v,blkV w3.heap.size] vE) (KE:Keep (Lv wc.heap.size g [v,blkV w3.heap.size]) wc wB):CollM g s n kd p w wB rE vE kids kv cs R:=by
 have z:=T.keep.size
 refine C.turn hg RE ((T.keep.mono (P:=fun k=>k<w3.heap.size∧k≠g∧v.ownBlock≠some k) (fun k hk=>⟨hk.1,hk.2.1⟩)).trans KE (fun k hk=>⟨by have:=hk.1;omega,hk.2.1,fun u hu e=>?_⟩)) (fun k e=>?_)
 ·simp only[List.mem_cons,List.not_mem_nil,or_false] at hu
  rcases hu with rfl|rfl
  ·exact hk.2.2 e
  ·injection e with e;have e:w3.heap.size=k:=e;have:=hk.1;omega
 ·rcases NE k e with h|⟨u,hu,h⟩
  ·exact .inl (by omega)
  ·simp only[List.mem_cons,List.not_mem_nil,or_false] at hu
   rcases hu with rfl|rfl
   ·exact .inr ⟨u,by simp,h⟩
   ·injection h with h;have h:w3.heap.size=k:=h;exact .inl (by omega)
structure EntM (w w3 wE:World) (v vT lv kv:Value) (lead:Coms) (kb m:Nat) (arr:Array Value) (ks:List NT) (R':Nat→Prop):Prop where
 ent:∃ a cap,wE.heap[w3.heap.size]?=some (.cells #[.int .i64 (a:Int),lv,.slice (some ⟨kb,0,none⟩) m cap] 55 (0,0))
 lead:HasV 2 wE lv lead.length (comV lead)
 kids:wE.heap[kb]?=some (.cells arr 30 (0,0))
 size:m*12≤arr.size∧m=ks.length
 nodes:IsKL R' wE (arr.toList.take (m*12)) ks
 kbn:w3.heap.size≤kb∧kb<wE.heap.size∧vT.ownBlock≠some kb∧lv.ownBlock≠some kb
 lvn:∀ k,lv.ownBlock=some k→k<wE.heap.size∧w.heap.size+2≤k∧kv.ownBlock≠some k∧vT.ownBlock≠some k
 own:∀ k,R' k→k<wE.heap.size∧w3.heap.size≤k∧k≠kb∧vT.ownBlock≠some k∧lv.ownBlock≠some k
 old:∀ k,lv.ownBlock=some k→w3.heap.size≤k∨v.ownBlock=some k
 head:∀ x∈ks.head?,x.h.lead.length≤40000
theorem CollM.behind (C:CollM g s n kd p w w3 r v kids kv cs R) (hg:g<w.heap.size) (T:TakeM g s n r v w3 wc) (RE:RSb g s n rE vE wB) (NE:NewV wc.heap.size [v,blkV w3.heap.size] vE) (KE:Keep (Lv wc.heap.size g [v,blkV w3.heap.size]) wc wB) (hfE:vE.ownBlock≠some w3.heap.size)
  (F:FndM g w3.heap.size (r.at':Int) wc wB [v,blkV w3.heap.size] vE lead ks lv kb m cap arr R') (hks:ks.length=1∨ks.length=2) (hhd:∀ x∈ks.head?,x.h.lead.length≤40000) (NB:NewV wB.heap.size [vE] vB) (KB:Keep (Lv wB.heap.size g [vE]) wB wD)
  (hvT:vT.ownBlock=vB.ownBlock) (RT:RSb g s n rT vT wE) (zT:wE.heap.size=wD.heap.size) (KT:Keep (fun k=>k≠g∧k≠kb) wD wE) (rk:wE.heap[kb]?=some (.cells (trailA rB arr ((m-1)*12)) 30 (0,0))) :
  CollM g s n kd p w wE rT vT kids kv cs R∧EntM w w3 wE v vT lv kv lead kb m (trailA rB arr ((m-1)*12)) (trailK rB ks) R':=by
 have z1:=T.keep.size
 have z2:=KE.size
 have z3:=KB.size
 have t3:=C.two
 have hfl:w3.heap.size<wc.heap.size:=(Array.getElem?_eq_some_iff.1 T.ent).1
 have hkb:kb<wB.heap.size:=(Array.getElem?_eq_some_iff.1 F.kids).1
 have nB:∀ k,vB.ownBlock=some k→wB.heap.size≤k∨vE.ownBlock=some k:=fun k e=>by
  rcases NB k e with h|⟨u,hu,h⟩
  ·exact .inl h
  ·rw[List.mem_singleton] at hu;subst hu;exact .inr h
 have nT:∀ k,vT.ownBlock=some k→wB.heap.size≤k∨vE.ownBlock=some k:=fun k e=>nB k (by rw[←hvT];exact e)
 have KD:∀ k,k<wB.heap.size→k≠g→vE.ownBlock≠some k→wD.heap[k]?=wB.heap[k]?:=fun k h1 h2 h3=>KB.block k ⟨h1,h2,fun u hu e=>by rw[List.mem_singleton] at hu;subst hu;exact h3 e⟩
 have KX:∀ k,k<wB.heap.size→k≠g→k≠kb→vE.ownBlock≠some k→wE.heap[k]?=wB.heap[k]?:=fun k h1 h2 h4 h3=>(KT.block k ⟨h2,h4⟩).trans (KD k h1 h2 h3)
 obtain ⟨hm,hmc,hcm,hsz⟩:=F.len
 have fr:IsKL R' wE (arr.toList.take (m*12)) ks:=IsKL.frame (fun b hb=>⟨hb,by
  obtain ⟨q1,q2,q3,q4,q5⟩:=F.own b hb
  exact KX b q1 (by omega) q3 q4⟩) _ _ F.nodes
 rw[hm] at fr hsz
 obtain ⟨g1,g2,g3,g4⟩:=IsKL.trail rB ks hks fr hsz
 have kvn:∀ k,kv.ownBlock=some k→k<w3.heap.size:=fun k e=>C.has.own k e
 have lvo:∀ k,lv.ownBlock=some k→wc.heap.size≤k∨v.ownBlock=some k∨k=w3.heap.size:=fun k e=>by
  rcases F.leadN.1 k e with h|⟨u,hu,h⟩
  ·exact .inl h
  ·simp only[List.mem_cons,List.not_mem_nil,or_false] at hu
   rcases hu with rfl|rfl
   ·exact .inr (.inl h)
   ·injection h with h;exact .inr (.inr h.symm)
 have vEo:∀ k,vE.ownBlock=some k→w3.heap.size≤k∨v.ownBlock=some k:=fun k e=>by
  rcases NE k e with h|⟨u,hu,h⟩
  ·exact .inl (by omega)
  ·simp only[List.mem_cons,List.not_mem_nil,or_false] at hu
   rcases hu with rfl|rfl
   ·exact .inr h
   ·injection h with h;have h:w3.heap.size=k:=h;exact .inl (by omega)
 have vTk:∀ k,k<wB.heap.size→vE.ownBlock≠some k→vT.ownBlock≠some k:=fun k h1 h2 e=>by
  rcases nT k e with h|h
  ·omega
  ·exact h2 h
 have hlvB:∀ k,lv.ownBlock=some k→k<wB.heap.size:=fun k e=>F.lead.own k e
 refine ⟨?_,⟨⟨r.at',cap,(KX _ (by omega) (by omega) (by have:=F.new.1;omega) hfE).trans F.cells⟩,F.lead.keep fun k e h=>KX k h (fun h2=>F.leadN.2.1 (by rw[e,h2])) (fun h2=>F.new.2.2 (by rw[e,h2])) (F.leadN.2.2.2 k e),rk,?_,?_,⟨by have:=F.new.1;omega,by omega,vTk kb hkb F.new.2.1,F.new.2.2⟩,fun k e=>⟨by have:=hlvB k e;omega,?_,?_,vTk k (hlvB k e) (F.leadN.2.2.2 k e)⟩,fun k hb=>?_,fun k e=>?_,fun x hx=>(by obtain ⟨z,hz,e⟩:=g4 x hx;rw[e];exact hhd z hz)⟩⟩
 ·refine C.turn hg RT ⟨KT.os.trans (KB.os.trans (KE.os.trans T.keep.os)),KT.tape.trans (KB.tape.trans (KE.tape.trans T.keep.tape)),KT.output.trans (KB.output.trans (KE.output.trans T.keep.output)),by omega,fun k hk=>?_⟩ (fun k e=>?_)
  ·refine (KX k (by have:=hk.1;omega) hk.2.1 (by have:=hk.1;have:=F.new.1;omega) (fun e=>?_)).trans ((KE.block k ⟨by have:=hk.1;omega,hk.2.1,fun u hu e=>?_⟩).trans (T.keep.block k ⟨hk.1,hk.2.1⟩))
   ·rcases vEo k e with h|h
    ·have:=hk.1;omega
    ·exact hk.2.2 h
   ·simp only[List.mem_cons,List.not_mem_nil,or_false] at hu
    rcases hu with rfl|rfl
    ·exact hk.2.2 e
    ·injection e with e;have e:w3.heap.size=k:=e;have:=hk.1;omega
  ·rcases nT k e with h|h
   ·exact .inl (by omega)
   ·rcases vEo k h with h|h
    ·exact .inl h
    ·exact .inr ⟨v,by simp,h⟩
 ·rw[hm,g2,g3];exact ⟨hsz,rfl⟩
 ·rw[hm];exact g1
 ·rcases lvo k e with h|h|h
  ·omega
  ·exact C.vnew k h
  ·omega
 ·intro e2
  rcases lvo k e with h|h|h
  ·have:=kvn k e2;omega
  ·exact (C.knew k e2).2 h
  ·have:=kvn k e2;omega
 ·obtain ⟨q1,q2,q3,q4,q5⟩:=F.own k hb
  exact ⟨by omega,by omega,q3,vTk k q1 q4,q5⟩
 ·rcases lvo k e with h|h|h
  ·exact .inl (by omega)
  ·exact .inr h
  ·exact .inl (by omega)
theorem nodesK_len (seq:Bool) (p:Nat) (m:Int) (l:Coms):∀ (ks:List NT),(ks.length=1∨ks.length=2)→(nodesK seq p m l ks).length≤2:=by
 intro ks h
 match ks,h with
 | [x],_=>show 1≤2;omega
 | [a,b],_=>
  cases seq
  ·show 2≤2;omega
  ·show 1≤2;omega
theorem trailK_len (r:Rst):∀ (ks:List NT),(ks.length=1∨ks.length=2)→(trailK r ks).length=ks.length:=by
 intro ks h
 obtain ⟨l,sm,fin,at0⟩:=r
 match l,sm,ks,h with
 | [],_,_,_=>rfl
 | _ :: _,false,_,_=>rfl
 | _ :: _,true,[x],_=>rfl
 | _ :: _,true,[a,b],_=>rfl
theorem left_ok {s:ByteArray} {r:Rst} (h:WFr s r):WFr s ⟨left r.l r.same,false,r.fin,r.at'⟩:=⟨h.le,h.top,by
 have h1:=h.few
 have h2:(left r.l r.same).length≤r.l.length:=by
  unfold left
  split
  ·rw[List.length_drop];omega
  ·exact Nat.le_refl _
 show (left r.l r.same).length+r.fin≤r.at'
 omega,fun e=>by cases e⟩
theorem CollM.nodesB (C:CollM g s n kd p w wE rT vT kids kv cs R) (hg:g<w.heap.size) (h3:w.heap.size+2≤w3.heap.size) (hkv:∀ k,kv.ownBlock=some k→k<w3.heap.size) (E:EntM w w3 wE v vT lv kv lead kb m arr ks R') (hlg:lv.ownBlock≠some g) (hRo:∀ b,R b→b<w3.heap.size∧v.ownBlock≠some b) (KN:Keep (fun k=>k<wE.heap.size∧k≠kb∧lv.ownBlock≠some k) wE wF) (hR2:∀ b,R2 b→b<wF.heap.size∧(R' b∨b=kb∨lv.ownBlock=some b∨wE.heap.size≤b)) :
  CollM g s n kd p w wF rT vT kids kv cs R∧∀ b,R2 b→b<wF.heap.size∧w.heap.size+2≤b∧vT.ownBlock≠some b∧kv.ownBlock≠some b:=by
 have z:=KN.size
 have hvT:=C.st.has.own
 have hkE:=C.has.own
 obtain ⟨b1,b2,b3,b4⟩:=E.kbn
 have stay:∀ k,k<wE.heap.size→k≠kb→lv.ownBlock≠some k→wF.heap[k]?=wE.heap[k]?:=fun k h1 h2 h3=>KN.block k ⟨h1,h2,h3⟩
 have hlv:∀ k,k<w.heap.size+2→lv.ownBlock≠some k:=fun k h e=>by have:=(E.lvn k e).2.1;omega
 have t2:=C.two
 refine ⟨⟨(stay _ (by omega) (by omega) (hlv _ (by omega))).trans C.row,(stay _ (by omega) (by omega) (hlv _ (by omega))).trans C.res,C.st.keep fun k hlt hk=>stay k hlt ?_ ?_,C.has.keep fun k e h=>stay k h (by have:=hkv k e;omega) (fun e2=>(E.lvn k e2).2.2.1 e),?_,C.keep.trans KN (fun k hk=>⟨by have:=hk.1;omega,by have:=hk.1;omega,hlv k (by have:=hk.1;omega)⟩),C.vnew,C.knew,fun k hb=>⟨by have:=(C.own k hb).1;omega,(C.own k hb).2⟩⟩,fun b hb=>?_⟩
 ·rcases hk with rfl|hk
  ·omega
  ·exact fun e=>b3 (by rw[←e];exact hk)
 ·rcases hk with rfl|hk
  ·exact hlg
  ·exact fun e=>(E.lvn k e).2.2.2 hk
 ·exact IsKL.frame (fun b hb=>⟨hb,stay b (C.own b hb).1 (by have:=(hRo b hb).1;omega) (fun e=>by
   rcases E.old b e with h|h
   ·have:=(hRo b hb).1;omega
   ·exact (hRo b hb).2 h)⟩) _ _ C.nodes
 ·obtain ⟨q1,q2⟩:=hR2 b hb
  rcases q2 with h|h|h|h
  ·obtain ⟨r1,r2,r3,r4,r5⟩:=E.own b h
   exact ⟨q1,by omega,r4,fun e=>by have:=hkv b e;omega⟩
  ·subst h
   exact ⟨q1,by omega,b3,fun e=>by have:=hkv b e;omega⟩
  ·obtain ⟨r1,r2,r3,r4⟩:=E.lvn b h
   exact ⟨q1,r2,r4,r3⟩
  ·exact ⟨q1,by omega,fun e=>by have:=hvT b e;omega,fun e=>by have:=hkE b e;omega⟩
end
set_option maxRecDepth 100000 in
set_option maxHeartbeats 3200000 in
theorem flColl_none (c:Nat) (h91:c≠91) (h123:c≠123) (g:Nat) (s:ByteArray) (n at' fin:Int) (deep:Int) (w:World) (h:FlAt g s n at' fin (.slice none 0 0) false w)
  (hp:∀ W,FlAt g s n at' fin (.slice none 0 0) false W→Calls Tryz.prog 16 #[.pointer (some ⟨g,0,none⟩)] W fun e w'=>e=.returned (.int .u8 (c:Int))∧∃ k,w'=W.drewN k) :
  Calls Tryz.prog 14 #[.pointer (some ⟨g,0,none⟩),.int .i64 deep] w fun e w'=>∃ cs:List Value,e=.returned (.tuple #[.agg cs.toArray,.int .i64 5])∧Cells12 cs∧FlAt g s n at' fin (.slice none 0 0) false w'∧Keep (fun k=>k<w.heap.size) w w':=by
 have hg:=h.lt
 have hc0:=h.cell
 have hI1:¬ ((c:Int)=91):=by omega
 have hI2:¬ ((c:Int)=123):=by omega
 obtain ⟨W1,hW1⟩:∃ W1,W1=(w.alloc (.cells #[.int .i64 0,.int .i64 0,.int .i64 0,.int .i64 0,.string ⟨#[]⟩,.string ⟨#[]⟩,.string ⟨#[]⟩,.slice none 0 0,.slice none 0 0,.slice none 0 0,.bool false,.string ⟨#[]⟩] 30)).alloc (.cells #[.int .i64 3,.int .i64 7,.int .i64 at',.int .i64 0,.string ⟨#[]⟩,.string ⟨#[]⟩,.string ⟨#[]⟩,.slice none 0 0,.slice none 0 0,.slice none 0 0,.bool false,.string ⟨#[]⟩] 30):=⟨_,rfl⟩
 have z1:W1.heap.size=w.heap.size+2:=by rw[hW1];simp
 have b1:Below w.heap.size w W1:=by rw[hW1];exact ((Below.refl _ _).alloc (Nat.le_refl _) _).alloc (by simp) _
 have ra:W1.heap[w.heap.size]?=some (.cells #[.int .i64 0,.int .i64 0,.int .i64 0,.int .i64 0,.string ⟨#[]⟩,.string ⟨#[]⟩,.string ⟨#[]⟩,.slice none 0 0,.slice none 0 0,.slice none 0 0,.bool false,.string ⟨#[]⟩] 30 (0,0)):=by rw[hW1];exact (heap_alloc_old _ _ (by simp)).trans (heap_alloc_new w _)
 have rn:W1.heap[w.heap.size+1]?=some (.cells #[.int .i64 3,.int .i64 7,.int .i64 at',.int .i64 0,.string ⟨#[]⟩,.string ⟨#[]⟩,.string ⟨#[]⟩,.slice none 0 0,.slice none 0 0,.slice none 0 0,.bool false,.string ⟨#[]⟩] 30 (0,0)):=by
  rw[hW1]
  have:=heap_alloc_new (w.alloc (.cells #[.int .i64 0,.int .i64 0,.int .i64 0,.int .i64 0,.string ⟨#[]⟩,.string ⟨#[]⟩,.string ⟨#[]⟩,.slice none 0 0,.slice none 0 0,.slice none 0 0,.bool false,.string ⟨#[]⟩] 30)) (.cells #[.int .i64 3,.int .i64 7,.int .i64 at',.int .i64 0,.string ⟨#[]⟩,.string ⟨#[]⟩,.string ⟨#[]⟩,.slice none 0 0,.slice none 0 0,.slice none 0 0,.bool false,.string ⟨#[]⟩] 30)
  simpa using this
 have h1:=h.below b1 hg
 have HW:=Lib.hid hW1
 clear hW1
 have hmf:∀ (fn:Fn) (first cap:Array Value) (w:World),(Instr.makeFunc fn first cap).run Tryz.prog w=.ok (.func fn first cap) w:=fun _ _ _ _=>rfl
 go_enter Tryz.func14,Tryz.ntmps14
 go_wp2_with fail
 go_step3
 go_wp2_with fail
 rw[←HW.out]
 refine (hp _ h1).mono ?_
 rintro e w2 ⟨rfl,j1,rfl⟩
 obtain ⟨W2,hW2⟩:∃ W2,W2=W1.drewN j1:=⟨_,rfl⟩
 have h2:FlAt g s n at' (fin:Int) (.slice none 0 0) false W2:=by rw[hW2];exact h1.drewN j1
 have b2:Below w.heap.size w W2:=by rw[hW2];exact below_drewN b1 j1
 have z2:W2.heap.size=w.heap.size+2:=by rw[hW2];exact z1
 have ra2:W2.heap[w.heap.size]?=some (.cells #[.int .i64 0,.int .i64 0,.int .i64 0,.int .i64 0,.string ⟨#[]⟩,.string ⟨#[]⟩,.string ⟨#[]⟩,.slice none 0 0,.slice none 0 0,.slice none 0 0,.bool false,.string ⟨#[]⟩] 30 (0,0)):=by rw[hW2];exact ra
 have rn2:W2.heap[w.heap.size+1]?=some (.cells #[.int .i64 3,.int .i64 7,.int .i64 at',.int .i64 0,.string ⟨#[]⟩,.string ⟨#[]⟩,.string ⟨#[]⟩,.slice none 0 0,.slice none 0 0,.slice none 0 0,.bool false,.string ⟨#[]⟩] 30 (0,0)):=by rw[hW2];exact rn
 rw[←hW2]
 clear hW2 h1 b1 z1 ra rn HW hc0
 have qa2:∀ j,W2.cell? ⟨w.heap.size,j,none⟩=(#[.int .i64 0,.int .i64 0,.int .i64 0,.int .i64 0,.string ⟨#[]⟩,.string ⟨#[]⟩,.string ⟨#[]⟩,.slice none 0 0,.slice none 0 0,.slice none 0 0,.bool false,.string ⟨#[]⟩]:Array Value)[j]?:=fun j=>cell_of_row W2 _ j _ _ _ ra2
 have qn2:∀ j,W2.cell? ⟨w.heap.size+1,j,none⟩=(#[.int .i64 3,.int .i64 7,.int .i64 at',.int .i64 0,.string ⟨#[]⟩,.string ⟨#[]⟩,.string ⟨#[]⟩,.slice none 0 0,.slice none 0 0,.slice none 0 0,.bool false,.string ⟨#[]⟩]:Array Value)[j]?:=fun j=>cell_of_row W2 _ j _ _ _ rn2
 have fa2:∀ j,W2.frozen? ⟨w.heap.size,j,none⟩=false:=fun j=>frozen_of_row W2 _ j _ _ ra2
 go_wp2
 rw[Exit.noGoto_ret]
 obtain ⟨w12,hw12⟩:∃ w12,w12=((((((((((((W2.setCell ⟨w.heap.size,0,none⟩ (.int .i64 3)).setCell ⟨w.heap.size,1,none⟩ (.int .i64 7)).setCell ⟨w.heap.size,2,none⟩ (.int .i64 at')).setCell ⟨w.heap.size,3,none⟩ (.int .i64 0)).setCell ⟨w.heap.size,4,none⟩ (.string ⟨#[]⟩)).setCell ⟨w.heap.size,5,none⟩ (.string ⟨#[]⟩)).setCell ⟨w.heap.size,6,none⟩ (.string ⟨#[]⟩)).setCell ⟨w.heap.size,7,none⟩ (.slice none 0 0)).setCell ⟨w.heap.size,8,none⟩ (.slice none 0 0)).setCell ⟨w.heap.size,9,none⟩ (.slice none 0 0)).setCell ⟨w.heap.size,10,none⟩ (.bool false)).setCell ⟨w.heap.size,11,none⟩ (.string ⟨#[]⟩)):=⟨_,rfl⟩
 have r12:w12.heap[w.heap.size]?=some (.cells #[.int .i64 3,.int .i64 7,.int .i64 at',.int .i64 0,.string ⟨#[]⟩,.string ⟨#[]⟩,.string ⟨#[]⟩,.slice none 0 0,.slice none 0 0,.slice none 0 0,.bool false,.string ⟨#[]⟩] 30 (0,0)):=by rw[hw12];exact row12_set W2 (hg:=ra2) ..
 have b12:Below w.heap.size W2 w12:=by rw[hw12];exact row12_below W2 _ _ (Nat.le_refl _) _ _ _ _ _ _ _ _ _ _ _ _
 have z12:w12.heap.size=W2.heap.size:=by rw[hw12,row12_size]
 have s12:∀ k,¬ k=w.heap.size→w12.heap[k]?=W2.heap[k]?:=fun k hk=>by rw[hw12];exact row12_other W2 _ k hk ..
 rw[←hw12]
 clear hw12
 have hcz:∀ j,w12.cell? ⟨w.heap.size,j,none⟩=(#[.int .i64 3,.int .i64 7,.int .i64 at',.int .i64 0,.string ⟨#[]⟩,.string ⟨#[]⟩,.string ⟨#[]⟩,.slice none 0 0,.slice none 0 0,.slice none 0 0,.bool false,.string ⟨#[]⟩]:Array Value)[j]?:=fun j=>cell_of_row w12 _ j _ _ _ r12
 refine bodyPost_ret (v:=.tuple #[.agg #[.int .i64 3,.int .i64 7,.int .i64 at',.int .i64 0,.string ⟨#[]⟩,.string ⟨#[]⟩,.string ⟨#[]⟩,.slice none 0 0,.slice none 0 0,.slice none 0 0,.bool false,.string ⟨#[]⟩],.int .i64 5]) (by simp[results,Tryz.results14,go_sem,hcz]) rfl ?_
 refine ⟨_,rfl,⟨_,_,_,_,_,_,_,_,_,_,_,_,_,_,_,_,_,_,rfl⟩,h2.below b12 hg,(Keep.of b2 (fun k hk=>hk)).trans (Keep.of b12 (fun k hk=>hk)) (fun k hk=>hk)⟩
set_option maxRecDepth 100000 in
set_option maxHeartbeats 3200000 in
theorem flColl_d91 (g:Nat) (s:ByteArray) (hs:s.size≤10000) (n:Int) (deep:Int) (p fin:Nat) (hd:40≤deep) (w:World) (h:RS g s n ⟨[],false,fin,p⟩ (.slice none 0 0) w) (hb:pkN s p=91) :
  Calls Tryz.prog 14 #[.pointer (some ⟨g,0,none⟩),.int .i64 deep] w fun e w'=>NodePost g s n w [] (.bad p 6) e w':=by
 have hA:=h.cells
 have hg:=hA.lt
 have hc0:=hA.cell
 have CP:=fun W H=>flPeek_is 91 g s n p (fin:Int) (.slice none 0 0) false W H (by omega) hb
 obtain ⟨W1,hW1⟩:∃ W1,W1=(w.alloc (.cells #[.int .i64 0,.int .i64 0,.int .i64 0,.int .i64 0,.string ⟨#[]⟩,.string ⟨#[]⟩,.string ⟨#[]⟩,.slice none 0 0,.slice none 0 0,.slice none 0 0,.bool false,.string ⟨#[]⟩] 30)).alloc (.cells #[.int .i64 3,.int .i64 7,.int .i64 (p:Int),.int .i64 0,.string ⟨#[]⟩,.string ⟨#[]⟩,.string ⟨#[]⟩,.slice none 0 0,.slice none 0 0,.slice none 0 0,.bool false,.string ⟨#[]⟩] 30):=⟨_,rfl⟩
 have z1:W1.heap.size=w.heap.size+2:=by rw[hW1];simp
 have b1:Below w.heap.size w W1:=by rw[hW1];exact ((Below.refl _ _).alloc (Nat.le_refl _) _).alloc (by simp) _
 have ra:W1.heap[w.heap.size]?=some (.cells #[.int .i64 0,.int .i64 0,.int .i64 0,.int .i64 0,.string ⟨#[]⟩,.string ⟨#[]⟩,.string ⟨#[]⟩,.slice none 0 0,.slice none 0 0,.slice none 0 0,.bool false,.string ⟨#[]⟩] 30 (0,0)):=by rw[hW1];exact (heap_alloc_old _ _ (by simp)).trans (heap_alloc_new w _)
 have rn:W1.heap[w.heap.size+1]?=some (.cells #[.int .i64 3,.int .i64 7,.int .i64 (p:Int),.int .i64 0,.string ⟨#[]⟩,.string ⟨#[]⟩,.string ⟨#[]⟩,.slice none 0 0,.slice none 0 0,.slice none 0 0,.bool false,.string ⟨#[]⟩] 30 (0,0)):=by
  rw[hW1]
  have:=heap_alloc_new (w.alloc (.cells #[.int .i64 0,.int .i64 0,.int .i64 0,.int .i64 0,.string ⟨#[]⟩,.string ⟨#[]⟩,.string ⟨#[]⟩,.slice none 0 0,.slice none 0 0,.slice none 0 0,.bool false,.string ⟨#[]⟩] 30)) (.cells #[.int .i64 3,.int .i64 7,.int .i64 (p:Int),.int .i64 0,.string ⟨#[]⟩,.string ⟨#[]⟩,.string ⟨#[]⟩,.slice none 0 0,.slice none 0 0,.slice none 0 0,.bool false,.string ⟨#[]⟩] 30)
  simpa using this
 have h1:=hA.below b1 hg
 have HW:=Lib.hid hW1
 clear hW1 hA
 have hmf:∀ (fn:Fn) (first cap:Array Value) (w:World),(Instr.makeFunc fn first cap).run Tryz.prog w=.ok (.func fn first cap) w:=fun _ _ _ _=>rfl
 go_enter Tryz.func14,Tryz.ntmps14
 go_wp2_with fail
 go_step3
 go_wp2_with fail
 rw[←HW.out]
 refine (CP _ h1).mono ?_
 rintro e w2 ⟨rfl,j1,rfl⟩
 obtain ⟨W2,hW2⟩:∃ W2,W2=W1.drewN j1:=⟨_,rfl⟩
 have h2:FlAt g s n (p:Int) (fin:Int) (.slice none 0 0) false W2:=by rw[hW2];exact h1.drewN j1
 have b2:Below w.heap.size w W2:=by rw[hW2];exact below_drewN b1 j1
 have z2:W2.heap.size=w.heap.size+2:=by rw[hW2];exact z1
 have ra2:W2.heap[w.heap.size]?=some (.cells #[.int .i64 0,.int .i64 0,.int .i64 0,.int .i64 0,.string ⟨#[]⟩,.string ⟨#[]⟩,.string ⟨#[]⟩,.slice none 0 0,.slice none 0 0,.slice none 0 0,.bool false,.string ⟨#[]⟩] 30 (0,0)):=by rw[hW2];exact ra
 have rn2:W2.heap[w.heap.size+1]?=some (.cells #[.int .i64 3,.int .i64 7,.int .i64 (p:Int),.int .i64 0,.string ⟨#[]⟩,.string ⟨#[]⟩,.string ⟨#[]⟩,.slice none 0 0,.slice none 0 0,.slice none 0 0,.bool false,.string ⟨#[]⟩] 30 (0,0)):=by rw[hW2];exact rn
 rw[←hW2]
 clear hW2 h1 b1 z1 ra rn HW hc0
 have qa2:∀ j,W2.cell? ⟨w.heap.size,j,none⟩=(#[.int .i64 0,.int .i64 0,.int .i64 0,.int .i64 0,.string ⟨#[]⟩,.string ⟨#[]⟩,.string ⟨#[]⟩,.slice none 0 0,.slice none 0 0,.slice none 0 0,.bool false,.string ⟨#[]⟩]:Array Value)[j]?:=fun j=>cell_of_row W2 _ j _ _ _ ra2
 have qn2:∀ j,W2.cell? ⟨w.heap.size+1,j,none⟩=(#[.int .i64 3,.int .i64 7,.int .i64 (p:Int),.int .i64 0,.string ⟨#[]⟩,.string ⟨#[]⟩,.string ⟨#[]⟩,.slice none 0 0,.slice none 0 0,.slice none 0 0,.bool false,.string ⟨#[]⟩]:Array Value)[j]?:=fun j=>cell_of_row W2 _ j _ _ _ rn2
 have fa2:∀ j,W2.frozen? ⟨w.heap.size,j,none⟩=false:=fun j=>frozen_of_row W2 _ j _ _ ra2
 have fn2:∀ j,W2.frozen? ⟨w.heap.size+1,j,none⟩=false:=fun j=>frozen_of_row W2 _ j _ _ rn2
 have hgn:g≠w.heap.size+1:=by omega
 have hH2:=Lib.hid h2
 clear h2 CP
 go_wp2
 rw[Exit.noGoto_ret]
 have h2:=hH2.out
 obtain ⟨W3,hW3⟩:∃ W3,W3=W2:=⟨_,rfl⟩
 have h3:FlAt g s n (p:Int) (fin:Int) (.slice none 0 0) false W3:=by rw[hW3];exact h2
 have rn3:W3.heap[w.heap.size+1]?=some (.cells #[.int .i64 3,.int .i64 7,.int .i64 (p:Int),.int .i64 0,.string ⟨#[]⟩,.string ⟨#[]⟩,.string ⟨#[]⟩,.slice none 0 0,.slice none 0 0,.slice none 0 0,.bool false,.string ⟨#[]⟩] 30 (0,0)):=by rw[hW3];exact rn2
 have ra3:W3.heap[w.heap.size]?=some (.cells #[.int .i64 0,.int .i64 0,.int .i64 0,.int .i64 0,.string ⟨#[]⟩,.string ⟨#[]⟩,.string ⟨#[]⟩,.slice none 0 0,.slice none 0 0,.slice none 0 0,.bool false,.string ⟨#[]⟩] 30 (0,0)):=by rw[hW3];exact ra2
 have K3:Keep (Lv w.heap.size g []) w W3:=by rw[hW3];exact Keep.of b2 (fun k hk=>hk.1)
 rw[←hW3]
 clear hW3
 obtain ⟨w12,hw12⟩:∃ w12,w12=((((((((((((W3.setCell ⟨w.heap.size,0,none⟩ (.int .i64 3)).setCell ⟨w.heap.size,1,none⟩ (.int .i64 7)).setCell ⟨w.heap.size,2,none⟩ (.int .i64 (p:Int))).setCell ⟨w.heap.size,3,none⟩ (.int .i64 0)).setCell ⟨w.heap.size,4,none⟩ (.string ⟨#[]⟩)).setCell ⟨w.heap.size,5,none⟩ (.string ⟨#[]⟩)).setCell ⟨w.heap.size,6,none⟩ (.string ⟨#[]⟩)).setCell ⟨w.heap.size,7,none⟩ (.slice none 0 0)).setCell ⟨w.heap.size,8,none⟩ (.slice none 0 0)).setCell ⟨w.heap.size,9,none⟩ (.slice none 0 0)).setCell ⟨w.heap.size,10,none⟩ (.bool false)).setCell ⟨w.heap.size,11,none⟩ (.string ⟨#[]⟩)):=⟨_,rfl⟩
 have r12:w12.heap[w.heap.size]?=some (.cells #[.int .i64 3,.int .i64 7,.int .i64 (p:Int),.int .i64 0,.string ⟨#[]⟩,.string ⟨#[]⟩,.string ⟨#[]⟩,.slice none 0 0,.slice none 0 0,.slice none 0 0,.bool false,.string ⟨#[]⟩] 30 (0,0)):=by rw[hw12];exact row12_set W3 (hg:=ra3) ..
 have b12:Below w.heap.size W3 w12:=by rw[hw12];exact row12_below W3 _ _ (Nat.le_refl _) _ _ _ _ _ _ _ _ _ _ _ _
 have z12:w12.heap.size=W3.heap.size:=by rw[hw12,row12_size]
 have s12:∀ k,¬ k=w.heap.size→w12.heap[k]?=W3.heap[k]?:=fun k hk=>by rw[hw12];exact row12_other W3 _ k hk ..
 rw[←hw12]
 clear hw12
 have hcz:∀ j,w12.cell? ⟨w.heap.size,j,none⟩=(#[.int .i64 3,.int .i64 7,.int .i64 (p:Int),.int .i64 0,.string ⟨#[]⟩,.string ⟨#[]⟩,.string ⟨#[]⟩,.slice none 0 0,.slice none 0 0,.slice none 0 0,.bool false,.string ⟨#[]⟩]:Array Value)[j]?:=fun j=>cell_of_row w12 _ j _ _ _ r12
 refine bodyPost_ret (v:=.tuple #[.agg #[.int .i64 3,.int .i64 7,.int .i64 (p:Int),.int .i64 0,.string ⟨#[]⟩,.string ⟨#[]⟩,.string ⟨#[]⟩,.slice none 0 0,.slice none 0 0,.slice none 0 0,.bool false,.string ⟨#[]⟩],.int .i64 6]) (by simp[results,Tryz.results14,go_sem,hcz]) rfl ?_
 have C3:CollM g s n 3 p w W3 ⟨[],false,fin,p⟩ (.slice none 0 0) [] (.slice none 0 0) [] (fun _=>False):=CollM.start hg rn3 ra3 K3 (World.grownBy.refl W3 (some g)) ⟨h3,HasV.nil 2 _,(fun e=>by cases e)⟩ NewV.none (Keep.refl _ _)
 exact C3.post hg (C3.st.keep (fun k hlt hk=>s12 k (by rcases hk with rfl|hk;omega;cases hk))) ⟨b12.os,b12.tape,b12.output,by omega,fun k hk=>s12 k hk.2.1⟩ (.inl ⟨rfl,rfl,rfl⟩) ⟨rfl,by decide,rfl⟩ (fun y h=>by cases h)
set_option maxRecDepth 100000 in
set_option maxHeartbeats 3200000 in
theorem flColl_d123 (g:Nat) (s:ByteArray) (hs:s.size≤10000) (n:Int) (deep:Int) (p fin:Nat) (hd:40≤deep) (w:World) (h:RS g s n ⟨[],false,fin,p⟩ (.slice none 0 0) w) (hb:pkN s p=123) :
  Calls Tryz.prog 14 #[.pointer (some ⟨g,0,none⟩),.int .i64 deep] w fun e w'=>NodePost g s n w [] (.bad p 6) e w':=by
 have hA:=h.cells
 have hg:=hA.lt
 have hc0:=hA.cell
 have CP:=fun W H=>flPeek_is 123 g s n p (fin:Int) (.slice none 0 0) false W H (by omega) hb
 obtain ⟨W1,hW1⟩:∃ W1,W1=(w.alloc (.cells #[.int .i64 0,.int .i64 0,.int .i64 0,.int .i64 0,.string ⟨#[]⟩,.string ⟨#[]⟩,.string ⟨#[]⟩,.slice none 0 0,.slice none 0 0,.slice none 0 0,.bool false,.string ⟨#[]⟩] 30)).alloc (.cells #[.int .i64 3,.int .i64 7,.int .i64 (p:Int),.int .i64 0,.string ⟨#[]⟩,.string ⟨#[]⟩,.string ⟨#[]⟩,.slice none 0 0,.slice none 0 0,.slice none 0 0,.bool false,.string ⟨#[]⟩] 30):=⟨_,rfl⟩
 have z1:W1.heap.size=w.heap.size+2:=by rw[hW1];simp
 have b1:Below w.heap.size w W1:=by rw[hW1];exact ((Below.refl _ _).alloc (Nat.le_refl _) _).alloc (by simp) _
 have ra:W1.heap[w.heap.size]?=some (.cells #[.int .i64 0,.int .i64 0,.int .i64 0,.int .i64 0,.string ⟨#[]⟩,.string ⟨#[]⟩,.string ⟨#[]⟩,.slice none 0 0,.slice none 0 0,.slice none 0 0,.bool false,.string ⟨#[]⟩] 30 (0,0)):=by rw[hW1];exact (heap_alloc_old _ _ (by simp)).trans (heap_alloc_new w _)
 have rn:W1.heap[w.heap.size+1]?=some (.cells #[.int .i64 3,.int .i64 7,.int .i64 (p:Int),.int .i64 0,.string ⟨#[]⟩,.string ⟨#[]⟩,.string ⟨#[]⟩,.slice none 0 0,.slice none 0 0,.slice none 0 0,.bool false,.string ⟨#[]⟩] 30 (0,0)):=by
  rw[hW1]
  have:=heap_alloc_new (w.alloc (.cells #[.int .i64 0,.int .i64 0,.int .i64 0,.int .i64 0,.string ⟨#[]⟩,.string ⟨#[]⟩,.string ⟨#[]⟩,.slice none 0 0,.slice none 0 0,.slice none 0 0,.bool false,.string ⟨#[]⟩] 30)) (.cells #[.int .i64 3,.int .i64 7,.int .i64 (p:Int),.int .i64 0,.string ⟨#[]⟩,.string ⟨#[]⟩,.string ⟨#[]⟩,.slice none 0 0,.slice none 0 0,.slice none 0 0,.bool false,.string ⟨#[]⟩] 30)
  simpa using this
 have h1:=hA.below b1 hg
 have HW:=Lib.hid hW1
 clear hW1 hA
 have hmf:∀ (fn:Fn) (first cap:Array Value) (w:World),(Instr.makeFunc fn first cap).run Tryz.prog w=.ok (.func fn first cap) w:=fun _ _ _ _=>rfl
 go_enter Tryz.func14,Tryz.ntmps14
 go_wp2_with fail
 go_step3
 go_wp2_with fail
 rw[←HW.out]
 refine (CP _ h1).mono ?_
 rintro e w2 ⟨rfl,j1,rfl⟩
 obtain ⟨W2,hW2⟩:∃ W2,W2=W1.drewN j1:=⟨_,rfl⟩
 have h2:FlAt g s n (p:Int) (fin:Int) (.slice none 0 0) false W2:=by rw[hW2];exact h1.drewN j1
 have b2:Below w.heap.size w W2:=by rw[hW2];exact below_drewN b1 j1
 have z2:W2.heap.size=w.heap.size+2:=by rw[hW2];exact z1
 have ra2:W2.heap[w.heap.size]?=some (.cells #[.int .i64 0,.int .i64 0,.int .i64 0,.int .i64 0,.string ⟨#[]⟩,.string ⟨#[]⟩,.string ⟨#[]⟩,.slice none 0 0,.slice none 0 0,.slice none 0 0,.bool false,.string ⟨#[]⟩] 30 (0,0)):=by rw[hW2];exact ra
 have rn2:W2.heap[w.heap.size+1]?=some (.cells #[.int .i64 3,.int .i64 7,.int .i64 (p:Int),.int .i64 0,.string ⟨#[]⟩,.string ⟨#[]⟩,.string ⟨#[]⟩,.slice none 0 0,.slice none 0 0,.slice none 0 0,.bool false,.string ⟨#[]⟩] 30 (0,0)):=by rw[hW2];exact rn
 rw[←hW2]
 clear hW2 h1 b1 z1 ra rn HW hc0
 have qa2:∀ j,W2.cell? ⟨w.heap.size,j,none⟩=(#[.int .i64 0,.int .i64 0,.int .i64 0,.int .i64 0,.string ⟨#[]⟩,.string ⟨#[]⟩,.string ⟨#[]⟩,.slice none 0 0,.slice none 0 0,.slice none 0 0,.bool false,.string ⟨#[]⟩]:Array Value)[j]?:=fun j=>cell_of_row W2 _ j _ _ _ ra2
 have qn2:∀ j,W2.cell? ⟨w.heap.size+1,j,none⟩=(#[.int .i64 3,.int .i64 7,.int .i64 (p:Int),.int .i64 0,.string ⟨#[]⟩,.string ⟨#[]⟩,.string ⟨#[]⟩,.slice none 0 0,.slice none 0 0,.slice none 0 0,.bool false,.string ⟨#[]⟩]:Array Value)[j]?:=fun j=>cell_of_row W2 _ j _ _ _ rn2
 have fa2:∀ j,W2.frozen? ⟨w.heap.size,j,none⟩=false:=fun j=>frozen_of_row W2 _ j _ _ ra2
 have fn2:∀ j,W2.frozen? ⟨w.heap.size+1,j,none⟩=false:=fun j=>frozen_of_row W2 _ j _ _ rn2
 have hgn:g≠w.heap.size+1:=by omega
 have hH2:=Lib.hid h2
 clear h2 CP
 go_wp2
 rw[Exit.noGoto_ret]
 have h2:=hH2.out
 obtain ⟨W3,hW3⟩:∃ W3,W3=W2.setCell ⟨w.heap.size+1,0,none⟩ (.int .i64 4):=⟨_,rfl⟩
 have h3:FlAt g s n (p:Int) (fin:Int) (.slice none 0 0) false W3:=by rw[hW3];exact (heap_setCell_other _ _ _ _ hgn).trans h2
 have rn3:W3.heap[w.heap.size+1]?=some (.cells #[.int .i64 4,.int .i64 7,.int .i64 (p:Int),.int .i64 0,.string ⟨#[]⟩,.string ⟨#[]⟩,.string ⟨#[]⟩,.slice none 0 0,.slice none 0 0,.slice none 0 0,.bool false,.string ⟨#[]⟩] 30 (0,0)):=by rw[hW3];exact heap_setCell_same _ _ 0 _ _ _ rn2
 have ra3:W3.heap[w.heap.size]?=some (.cells #[.int .i64 0,.int .i64 0,.int .i64 0,.int .i64 0,.string ⟨#[]⟩,.string ⟨#[]⟩,.string ⟨#[]⟩,.slice none 0 0,.slice none 0 0,.slice none 0 0,.bool false,.string ⟨#[]⟩] 30 (0,0)):=by rw[hW3];exact (heap_setCell_other _ _ _ _ (show w.heap.size≠w.heap.size+1 by omega)).trans ra2
 have K3:Keep (Lv w.heap.size g []) w W3:=by rw[hW3];exact (Keep.of b2 (fun k hk=>hk.1)).setCell (p:=⟨w.heap.size+1,0,none⟩) (fun hk=>by have h0:w.heap.size+1<w.heap.size:=hk.1;omega) _
 rw[←hW3]
 clear hW3
 obtain ⟨w12,hw12⟩:∃ w12,w12=((((((((((((W3.setCell ⟨w.heap.size,0,none⟩ (.int .i64 4)).setCell ⟨w.heap.size,1,none⟩ (.int .i64 7)).setCell ⟨w.heap.size,2,none⟩ (.int .i64 (p:Int))).setCell ⟨w.heap.size,3,none⟩ (.int .i64 0)).setCell ⟨w.heap.size,4,none⟩ (.string ⟨#[]⟩)).setCell ⟨w.heap.size,5,none⟩ (.string ⟨#[]⟩)).setCell ⟨w.heap.size,6,none⟩ (.string ⟨#[]⟩)).setCell ⟨w.heap.size,7,none⟩ (.slice none 0 0)).setCell ⟨w.heap.size,8,none⟩ (.slice none 0 0)).setCell ⟨w.heap.size,9,none⟩ (.slice none 0 0)).setCell ⟨w.heap.size,10,none⟩ (.bool false)).setCell ⟨w.heap.size,11,none⟩ (.string ⟨#[]⟩)):=⟨_,rfl⟩
 have r12:w12.heap[w.heap.size]?=some (.cells #[.int .i64 4,.int .i64 7,.int .i64 (p:Int),.int .i64 0,.string ⟨#[]⟩,.string ⟨#[]⟩,.string ⟨#[]⟩,.slice none 0 0,.slice none 0 0,.slice none 0 0,.bool false,.string ⟨#[]⟩] 30 (0,0)):=by rw[hw12];exact row12_set W3 (hg:=ra3) ..
 have b12:Below w.heap.size W3 w12:=by rw[hw12];exact row12_below W3 _ _ (Nat.le_refl _) _ _ _ _ _ _ _ _ _ _ _ _
 have z12:w12.heap.size=W3.heap.size:=by rw[hw12,row12_size]
 have s12:∀ k,¬ k=w.heap.size→w12.heap[k]?=W3.heap[k]?:=fun k hk=>by rw[hw12];exact row12_other W3 _ k hk ..
 rw[←hw12]
 clear hw12
 have hcz:∀ j,w12.cell? ⟨w.heap.size,j,none⟩=(#[.int .i64 4,.int .i64 7,.int .i64 (p:Int),.int .i64 0,.string ⟨#[]⟩,.string ⟨#[]⟩,.string ⟨#[]⟩,.slice none 0 0,.slice none 0 0,.slice none 0 0,.bool false,.string ⟨#[]⟩]:Array Value)[j]?:=fun j=>cell_of_row w12 _ j _ _ _ r12
 refine bodyPost_ret (v:=.tuple #[.agg #[.int .i64 4,.int .i64 7,.int .i64 (p:Int),.int .i64 0,.string ⟨#[]⟩,.string ⟨#[]⟩,.string ⟨#[]⟩,.slice none 0 0,.slice none 0 0,.slice none 0 0,.bool false,.string ⟨#[]⟩],.int .i64 6]) (by simp[results,Tryz.results14,go_sem,hcz]) rfl ?_
 have C3:CollM g s n 4 p w W3 ⟨[],false,fin,p⟩ (.slice none 0 0) [] (.slice none 0 0) [] (fun _=>False):=CollM.start hg rn3 ra3 K3 (World.grownBy.refl W3 (some g)) ⟨h3,HasV.nil 2 _,(fun e=>by cases e)⟩ NewV.none (Keep.refl _ _)
 exact C3.post hg (C3.st.keep (fun k hlt hk=>s12 k (by rcases hk with rfl|hk;omega;cases hk))) ⟨b12.os,b12.tape,b12.output,by omega,fun k hk=>s12 k hk.2.1⟩ (.inl ⟨rfl,rfl,rfl⟩) ⟨rfl,by decide,rfl⟩ (fun y h=>by cases h)
set_option maxRecDepth 100000 in
set_option maxHeartbeats 3200000 in
theorem flColl_l91 (w0:World) (g:Nat) (hg0:w0.heap.size≤g) (s:ByteArray) (hs:s.size≤10000) (n:Int) (col:Nat→Nat→Rd (NT × Nat)→Prop) (hc:GoesC s col) (hh:HtC s col) (deep p fin:Nat) (hd:deep<40)
  (hE:EntC w0 g s n 15 (deep+1) (fun lead q oE=>itemP s n col lead (deep+1) q oE)) (oS:Rd Rst) (hoS:skipP s n (fresh (p+1)) oS) (o:Rd (NT × Rst))
  (hO:(∃ q c,oS=.bad q c∧o=.bad q c)∨∃ r1 oL,oS=.ok r1∧LoopP s n col true 93 deep oL r1.at' r1.l []∧o=collO 3 p oL) (w:World) (h:RS g s n ⟨[],false,fin,p⟩ (.slice none 0 0) w) (hB:Bs w0 w []) (hb:pkN s p=91) :
  Calls Tryz.prog 14 #[.pointer (some ⟨g,0,none⟩),.int .i64 (deep:Int)] w fun e w'=>NodePost g s n w [] o e w':=by
 have hps:=(pk_lt hb (by decide)).1
 have hA:=h.cells
 have hg:=hA.lt
 have hc0:=hA.cell
 have hdI:¬ ((40:Int)≤(deep:Int)):=by omega
 have CP:=fun W H=>flPeek_is 91 g s n p (fin:Int) (.slice none 0 0) false W H (by omega) hb
 obtain ⟨W1,hW1⟩:∃ W1,W1=(w.alloc (.cells #[.int .i64 0,.int .i64 0,.int .i64 0,.int .i64 0,.string ⟨#[]⟩,.string ⟨#[]⟩,.string ⟨#[]⟩,.slice none 0 0,.slice none 0 0,.slice none 0 0,.bool false,.string ⟨#[]⟩] 30)).alloc (.cells #[.int .i64 3,.int .i64 7,.int .i64 (p:Int),.int .i64 0,.string ⟨#[]⟩,.string ⟨#[]⟩,.string ⟨#[]⟩,.slice none 0 0,.slice none 0 0,.slice none 0 0,.bool false,.string ⟨#[]⟩] 30):=⟨_,rfl⟩
 have z1:W1.heap.size=w.heap.size+2:=by rw[hW1];simp
 have b1:Below w.heap.size w W1:=by rw[hW1];exact ((Below.refl _ _).alloc (Nat.le_refl _) _).alloc (by simp) _
 have ra:W1.heap[w.heap.size]?=some (.cells #[.int .i64 0,.int .i64 0,.int .i64 0,.int .i64 0,.string ⟨#[]⟩,.string ⟨#[]⟩,.string ⟨#[]⟩,.slice none 0 0,.slice none 0 0,.slice none 0 0,.bool false,.string ⟨#[]⟩] 30 (0,0)):=by rw[hW1];exact (heap_alloc_old _ _ (by simp)).trans (heap_alloc_new w _)
 have rn:W1.heap[w.heap.size+1]?=some (.cells #[.int .i64 3,.int .i64 7,.int .i64 (p:Int),.int .i64 0,.string ⟨#[]⟩,.string ⟨#[]⟩,.string ⟨#[]⟩,.slice none 0 0,.slice none 0 0,.slice none 0 0,.bool false,.string ⟨#[]⟩] 30 (0,0)):=by
  rw[hW1]
  have:=heap_alloc_new (w.alloc (.cells #[.int .i64 0,.int .i64 0,.int .i64 0,.int .i64 0,.string ⟨#[]⟩,.string ⟨#[]⟩,.string ⟨#[]⟩,.slice none 0 0,.slice none 0 0,.slice none 0 0,.bool false,.string ⟨#[]⟩] 30)) (.cells #[.int .i64 3,.int .i64 7,.int .i64 (p:Int),.int .i64 0,.string ⟨#[]⟩,.string ⟨#[]⟩,.string ⟨#[]⟩,.slice none 0 0,.slice none 0 0,.slice none 0 0,.bool false,.string ⟨#[]⟩] 30)
  simpa using this
 have h1:=hA.below b1 hg
 have HW:=Lib.hid hW1
 have HE:=Lib.hid hE
 clear hW1 hA hE
 have hmf:∀ (fn:Fn) (first cap:Array Value) (w:World),(Instr.makeFunc fn first cap).run Tryz.prog w=.ok (.func fn first cap) w:=fun _ _ _ _=>rfl
 go_enter Tryz.func14,Tryz.ntmps14
 go_wp2_with fail
 go_step3
 go_wp2_with fail
 rw[←HW.out]
 refine (CP _ h1).mono ?_
 rintro e w2 ⟨rfl,j1,rfl⟩
 obtain ⟨W2,hW2⟩:∃ W2,W2=W1.drewN j1:=⟨_,rfl⟩
 have h2:FlAt g s n (p:Int) (fin:Int) (.slice none 0 0) false W2:=by rw[hW2];exact h1.drewN j1
 have b2:Below w.heap.size w W2:=by rw[hW2];exact below_drewN b1 j1
 have z2:W2.heap.size=w.heap.size+2:=by rw[hW2];exact z1
 have ra2:W2.heap[w.heap.size]?=some (.cells #[.int .i64 0,.int .i64 0,.int .i64 0,.int .i64 0,.string ⟨#[]⟩,.string ⟨#[]⟩,.string ⟨#[]⟩,.slice none 0 0,.slice none 0 0,.slice none 0 0,.bool false,.string ⟨#[]⟩] 30 (0,0)):=by rw[hW2];exact ra
 have rn2:W2.heap[w.heap.size+1]?=some (.cells #[.int .i64 3,.int .i64 7,.int .i64 (p:Int),.int .i64 0,.string ⟨#[]⟩,.string ⟨#[]⟩,.string ⟨#[]⟩,.slice none 0 0,.slice none 0 0,.slice none 0 0,.bool false,.string ⟨#[]⟩] 30 (0,0)):=by rw[hW2];exact rn
 rw[←hW2]
 clear hW2 h1 b1 z1 ra rn HW hc0
 have qa2:∀ j,W2.cell? ⟨w.heap.size,j,none⟩=(#[.int .i64 0,.int .i64 0,.int .i64 0,.int .i64 0,.string ⟨#[]⟩,.string ⟨#[]⟩,.string ⟨#[]⟩,.slice none 0 0,.slice none 0 0,.slice none 0 0,.bool false,.string ⟨#[]⟩]:Array Value)[j]?:=fun j=>cell_of_row W2 _ j _ _ _ ra2
 have qn2:∀ j,W2.cell? ⟨w.heap.size+1,j,none⟩=(#[.int .i64 3,.int .i64 7,.int .i64 (p:Int),.int .i64 0,.string ⟨#[]⟩,.string ⟨#[]⟩,.string ⟨#[]⟩,.slice none 0 0,.slice none 0 0,.slice none 0 0,.bool false,.string ⟨#[]⟩]:Array Value)[j]?:=fun j=>cell_of_row W2 _ j _ _ _ rn2
 have fa2:∀ j,W2.frozen? ⟨w.heap.size,j,none⟩=false:=fun j=>frozen_of_row W2 _ j _ _ ra2
 have fn2:∀ j,W2.frozen? ⟨w.heap.size+1,j,none⟩=false:=fun j=>frozen_of_row W2 _ j _ _ rn2
 have qg2:=h2.cell
 have hgn:g≠w.heap.size+1:=by omega
 go_wp2_with fail
 obtain ⟨W3,hW3⟩:∃ W3,W3=W2:=⟨_,rfl⟩
 have h3:FlAt g s n (p:Int) (fin:Int) (.slice none 0 0) false W3:=by rw[hW3];exact h2
 have rn3:W3.heap[w.heap.size+1]?=some (.cells #[.int .i64 3,.int .i64 7,.int .i64 (p:Int),.int .i64 0,.string ⟨#[]⟩,.string ⟨#[]⟩,.string ⟨#[]⟩,.slice none 0 0,.slice none 0 0,.slice none 0 0,.bool false,.string ⟨#[]⟩] 30 (0,0)):=by rw[hW3];exact rn2
 have ra3:W3.heap[w.heap.size]?=some (.cells #[.int .i64 0,.int .i64 0,.int .i64 0,.int .i64 0,.string ⟨#[]⟩,.string ⟨#[]⟩,.string ⟨#[]⟩,.slice none 0 0,.slice none 0 0,.slice none 0 0,.bool false,.string ⟨#[]⟩] 30 (0,0)):=by rw[hW3];exact ra2
 have K3:Keep (Lv w.heap.size g []) w W3:=by rw[hW3];exact Keep.of b2 (fun k hk=>hk.1)
 rw[←hW3]
 clear hW3 h2 b2 z2 ra2 rn2 qa2 qn2 fa2 fn2 qg2 CP hmf
 refine (flPass_is g s n (p:Int) (fin:Int) ((p:Int)+1) (.slice none 0 0) false W3 h3).mono ?_
 rintro e W4 ⟨rfl,A4,g4,z4⟩
 have RS4:RS g s n (fresh (p+1)) (.slice none 0 0) W4:=⟨by simpa [fresh] using A4,HasV.nil 2 _,(fun e=>by cases e),fresh_ok (by omega)⟩
 have CS:=flSkip_of g s n (fresh (p+1)) (.slice none 0 0) oS W4 RS4 hs hoS
 clear RS4 A4 h3
 go_wp2_with fail
 refine CS.mono ?_
 rintro e W5 ⟨c5,v5,r5,rfl,RS5,N5,K5,res5⟩
 clear CS
 have C5:CollM g s n 3 p w W5 r5 v5 [] (.slice none 0 0) [] (fun _=>False):=CollM.start hg rn3 ra3 K3 g4 RS5.b N5 K5
 have I5:LoopI s n col true 93 deep 3 p o (s.size+2) r5 [] c5:=by
  rcases hO with ⟨q,c,rfl,rfl⟩|⟨r1,oL,rfl,hLP,rfl⟩
  ·obtain ⟨rfl,hc,rfl⟩:=res5
   exact ⟨fun e=>absurd e hc,fun _=>rfl⟩
  ·obtain ⟨rfl,rfl⟩:=res5
   exact ⟨fun _=>⟨RS5.ok,Nat.zero_le _,by omega,oL,rfl,hLP⟩,fun h=>absurd rfl h⟩
 have HC5:=Lib.hid C5
 have HI5:=Lib.hid I5
 clear C5 I5 RS5 N5 K5 res5 rn3 ra3 K3 g4 z4 hO hoS
 go_wp2
 go_step3
 go_wp2
 go_loopg [9] (s.size+2) (fun gk v9 wr=>∃ (r:Rst) (v:Value) (kids:List NT) (kv:Value) (cs:List Value) (R:Nat→Prop) (c:Int),v9=.int .i64 c∧CollM g s n 3 p w wr r v kids kv cs R∧Hid (LoopI s n col true 93 deep 3 p o gk r kids c))
 case atStart=>exact ⟨r5,v5,[],_,[],_,c5,rfl,HC5.out,HI5⟩
 case round=>
 obtain ⟨r,v,kids,kv,cs,R,c,rfl,C,HI⟩:=hrel
 obtain ⟨ak,ck,rfl⟩:=C.has.form
 obtain ⟨av,cv,rfl⟩:=C.st.has.form
 by_cases hcz:c=0
 rotate_left
 ·have hI:=HI.out.2 hcz
  have hcb:(c != 0)=true:=by rw[bne,Bool.not_eq_eq_eq_not,Bool.not_true,beq_eq_false_iff_ne];exact hcz
  have ra2:=C.res
  have rn2:=C.row
  have qn2:∀ j,wr.cell? ⟨w.heap.size+1,j,none⟩=(#[.int .i64 3,.int .i64 7,.int .i64 (p:Int),.int .i64 0,.string ⟨#[]⟩,.string ⟨#[]⟩,.string ⟨#[]⟩,.slice ak kids.length ck,.slice none 0 0,.slice none 0 0,.bool false,.string ⟨#[]⟩]:Array Value)[j]?:=fun j=>cell_of_row wr _ j _ _ _ rn2
  have qa2:∀ j,wr.cell? ⟨w.heap.size,j,none⟩=(#[.int .i64 0,.int .i64 0,.int .i64 0,.int .i64 0,.string ⟨#[]⟩,.string ⟨#[]⟩,.string ⟨#[]⟩,.slice none 0 0,.slice none 0 0,.slice none 0 0,.bool false,.string ⟨#[]⟩]:Array Value)[j]?:=fun j=>cell_of_row wr _ j _ _ _ ra2
  have fa2:∀ j,wr.frozen? ⟨w.heap.size,j,none⟩=false:=fun j=>frozen_of_row wr _ j _ _ ra2
  have HC:=Lib.hid C
  have ra2:=Lib.hid ra2
  have hzz:=Lib.hid hcz
  clear C HI rn2 hcz
  go_wp2
  rw[Exit.noGoto_ret]
  obtain ⟨w12,hw12⟩:∃ w12,w12=((((((((((((wr.setCell ⟨w.heap.size,0,none⟩ (.int .i64 3)).setCell ⟨w.heap.size,1,none⟩ (.int .i64 7)).setCell ⟨w.heap.size,2,none⟩ (.int .i64 (p:Int))).setCell ⟨w.heap.size,3,none⟩ (.int .i64 0)).setCell ⟨w.heap.size,4,none⟩ (.string ⟨#[]⟩)).setCell ⟨w.heap.size,5,none⟩ (.string ⟨#[]⟩)).setCell ⟨w.heap.size,6,none⟩ (.string ⟨#[]⟩)).setCell ⟨w.heap.size,7,none⟩ (.slice ak kids.length ck)).setCell ⟨w.heap.size,8,none⟩ (.slice none 0 0)).setCell ⟨w.heap.size,9,none⟩ (.slice none 0 0)).setCell ⟨w.heap.size,10,none⟩ (.bool false)).setCell ⟨w.heap.size,11,none⟩ (.string ⟨#[]⟩)):=⟨_,rfl⟩
  have r12:w12.heap[w.heap.size]?=some (.cells #[.int .i64 3,.int .i64 7,.int .i64 (p:Int),.int .i64 0,.string ⟨#[]⟩,.string ⟨#[]⟩,.string ⟨#[]⟩,.slice ak kids.length ck,.slice none 0 0,.slice none 0 0,.bool false,.string ⟨#[]⟩] 30 (0,0)):=by rw[hw12];exact row12_set wr (hg:=ra2.out) ..
  have b12:Below w.heap.size wr w12:=by rw[hw12];exact row12_below wr _ _ (Nat.le_refl _) _ _ _ _ _ _ _ _ _ _ _ _
  have z12:w12.heap.size=wr.heap.size:=by rw[hw12,row12_size]
  have s12:∀ k,¬ k=w.heap.size→w12.heap[k]?=wr.heap[k]?:=fun k hk=>by rw[hw12];exact row12_other wr _ k hk ..
  rw[←hw12]
  clear hw12
  have hcz:∀ j,w12.cell? ⟨w.heap.size,j,none⟩=(#[.int .i64 3,.int .i64 7,.int .i64 (p:Int),.int .i64 0,.string ⟨#[]⟩,.string ⟨#[]⟩,.string ⟨#[]⟩,.slice ak kids.length ck,.slice none 0 0,.slice none 0 0,.bool false,.string ⟨#[]⟩]:Array Value)[j]?:=fun j=>cell_of_row w12 _ j _ _ _ r12
  refine bodyPost_ret (v:=.tuple #[.agg #[.int .i64 3,.int .i64 7,.int .i64 (p:Int),.int .i64 0,.string ⟨#[]⟩,.string ⟨#[]⟩,.string ⟨#[]⟩,.slice ak kids.length ck,.slice none 0 0,.slice none 0 0,.bool false,.string ⟨#[]⟩],.int .i64 c]) (by simp[results,Tryz.results14,go_sem,hcz]) rfl ?_
  have C:=HC.out
  have t2:=C.two
  refine C.post hg (C.st.keep (fun k hlt hk=>s12 k (by rcases hk with rfl|hk;omega;have:=C.vnew k hk;omega))) ⟨b12.os,b12.tape,b12.output,by omega,fun k hk=>s12 k hk.2.1⟩ (.inl ⟨rfl,rfl,rfl⟩) ?_ (fun y h=>by rw[hI] at h;cases h)
  rw[hI]
  exact ⟨rfl,hzz.out,rfl⟩
 ·subst hcz
  obtain ⟨wf,hkl,hgk,oL,ho,hLP⟩:=HI.out.1 rfl
  clear HI
  have htop:=wf.top
  rcases hLP.inv with ⟨hcl,hoL⟩|⟨hcl,oE,hoE,hrest⟩
  ·clear hLP
   have hpk:pkN s r.at'=93:=by rw[isB_pk s r.at' 93 (by decide)] at hcl;exact of_decide_eq_true hcl
   have CP:=flPeek_is 93 g s n r.at' (r.fin:Int) (.slice av r.l.length cv) r.same wr C.st.cells (by omega) hpk
   go_wp2_with fail
   refine CP.mono ?_
   rintro e w2 ⟨rfl,j2,rfl⟩
   clear CP
   obtain ⟨w3,hw3⟩:∃ w3,w3=wr.drewN j2:=⟨_,rfl⟩
   have C3:CollM g s n 3 p w w3 r (.slice av r.l.length cv) kids (.slice ak kids.length ck) cs R:=by rw[hw3];exact C.turn (w2:=wr.drewN j2) hg (C.st.keep (fun k _ _=>rfl)) ((Keep.refl _ _).drewN j2) (NewV.self (by simp))
   rw[←hw3]
   clear hw3 C
   have A3:=C3.st.cells
   have HC3:=Lib.hid C3
   clear C3
   go_wp2_with fail
   refine (flTake_is g s n (r.at':Int) (r.fin:Int) av r.l.length cv r.same w3 A3).mono ?_
   rintro e w4 ⟨rfl,A4,g4,z4⟩
   have t3:=HC3.out.two
   have rn4:=((Keep.grown g4).block (w.heap.size+1) ⟨by omega,by omega⟩).trans HC3.out.row
   have fn4:∀ j,w4.frozen? ⟨w.heap.size+1,j,none⟩=false:=fun j=>frozen_of_row w4 _ j _ _ rn4
   have qn4:∀ j,w4.cell? ⟨w.heap.size+1,j,none⟩=(#[.int .i64 3,.int .i64 7,.int .i64 (p:Int),.int .i64 0,.string ⟨#[]⟩,.string ⟨#[]⟩,.string ⟨#[]⟩,.slice ak kids.length ck,.slice none 0 0,.slice none 0 0,.bool false,.string ⟨#[]⟩]:Array Value)[j]?:=fun j=>cell_of_row w4 _ j _ _ _ rn4
   have qg4:=A4.cell
   have HA4:=Lib.hid A4
   have HN4:=Lib.hid rn4
   clear A3 A4 rn4
   go_wp2_with fail
   obtain ⟨w5,hw5⟩:∃ w5,w5=w4.setCell ⟨w.heap.size+1,9,none⟩ (.slice av r.l.length cv):=⟨_,rfl⟩
   have A5:FlAt g s n (r.at':Int) (r.fin:Int) (.slice none 0 0) false w5:=by rw[hw5];exact (heap_setCell_other _ _ _ _ hgn).trans HA4.out
   have rn5:w5.heap[w.heap.size+1]?=some (.cells #[.int .i64 3,.int .i64 7,.int .i64 (p:Int),.int .i64 0,.string ⟨#[]⟩,.string ⟨#[]⟩,.string ⟨#[]⟩,.slice ak kids.length ck,.slice none 0 0,.slice av r.l.length cv,.bool false,.string ⟨#[]⟩] 30 (0,0)):=by rw[hw5];exact heap_setCell_same _ _ 9 _ _ _ HN4.out
   have s5:∀ k,k≠w.heap.size+1→w5.heap[k]?=w4.heap[k]?:=fun k hk=>by rw[hw5,heap_setCell_other _ _ _ _ hk]
   have o5:w5.os=w4.os∧w5.tape=w4.tape∧w5.output=w4.output∧w5.heap.size=w4.heap.size:=by rw[hw5];exact ⟨rfl,rfl,rfl,by simp[World.setCell]⟩
   rw[←hw5]
   clear hw5 fn4 qn4 qg4 HA4
   refine (flPass_is g s n (r.at':Int) (r.fin:Int) ((r.at':Int)+1) (.slice none 0 0) false w5 A5).mono ?_
   rintro e w6 ⟨rfl,A6,g6,z6⟩
   have rn6:=((Keep.grown g6).block (w.heap.size+1) ⟨by omega,by omega⟩).trans rn5
   have ra6:=((Keep.grown g6).block w.heap.size ⟨by omega,by omega⟩).trans ((s5 _ (by omega)).trans (((Keep.grown g4).block w.heap.size ⟨by omega,by omega⟩).trans HC3.out.res))
   have qn6:∀ j,w6.cell? ⟨w.heap.size+1,j,none⟩=(#[.int .i64 3,.int .i64 7,.int .i64 (p:Int),.int .i64 0,.string ⟨#[]⟩,.string ⟨#[]⟩,.string ⟨#[]⟩,.slice ak kids.length ck,.slice none 0 0,.slice av r.l.length cv,.bool false,.string ⟨#[]⟩]:Array Value)[j]?:=fun j=>cell_of_row w6 _ j _ _ _ rn6
   have qa6:∀ j,w6.cell? ⟨w.heap.size,j,none⟩=(#[.int .i64 0,.int .i64 0,.int .i64 0,.int .i64 0,.string ⟨#[]⟩,.string ⟨#[]⟩,.string ⟨#[]⟩,.slice none 0 0,.slice none 0 0,.slice none 0 0,.bool false,.string ⟨#[]⟩]:Array Value)[j]?:=fun j=>cell_of_row w6 _ j _ _ _ ra6
   have fa6:∀ j,w6.frozen? ⟨w.heap.size,j,none⟩=false:=fun j=>frozen_of_row w6 _ j _ _ ra6
   have ra2:=Lib.hid ra6
   have HA6:=Lib.hid A6
   clear A5 A6 rn5 rn6 ra6
   go_wp2
   rw[Exit.noGoto_ret]
   obtain ⟨w12,hw12⟩:∃ w12,w12=((((((((((((w6.setCell ⟨w.heap.size,0,none⟩ (.int .i64 3)).setCell ⟨w.heap.size,1,none⟩ (.int .i64 7)).setCell ⟨w.heap.size,2,none⟩ (.int .i64 (p:Int))).setCell ⟨w.heap.size,3,none⟩ (.int .i64 0)).setCell ⟨w.heap.size,4,none⟩ (.string ⟨#[]⟩)).setCell ⟨w.heap.size,5,none⟩ (.string ⟨#[]⟩)).setCell ⟨w.heap.size,6,none⟩ (.string ⟨#[]⟩)).setCell ⟨w.heap.size,7,none⟩ (.slice ak kids.length ck)).setCell ⟨w.heap.size,8,none⟩ (.slice none 0 0)).setCell ⟨w.heap.size,9,none⟩ (.slice av r.l.length cv)).setCell ⟨w.heap.size,10,none⟩ (.bool false)).setCell ⟨w.heap.size,11,none⟩ (.string ⟨#[]⟩)):=⟨_,rfl⟩
   have r12:w12.heap[w.heap.size]?=some (.cells #[.int .i64 3,.int .i64 7,.int .i64 (p:Int),.int .i64 0,.string ⟨#[]⟩,.string ⟨#[]⟩,.string ⟨#[]⟩,.slice ak kids.length ck,.slice none 0 0,.slice av r.l.length cv,.bool false,.string ⟨#[]⟩] 30 (0,0)):=by rw[hw12];exact row12_set w6 (hg:=ra2.out) ..
   have b12:Below w.heap.size w6 w12:=by rw[hw12];exact row12_below w6 _ _ (Nat.le_refl _) _ _ _ _ _ _ _ _ _ _ _ _
   have z12:w12.heap.size=w6.heap.size:=by rw[hw12,row12_size]
   have s12:∀ k,¬ k=w.heap.size→w12.heap[k]?=w6.heap[k]?:=fun k hk=>by rw[hw12];exact row12_other w6 _ k hk ..
   rw[←hw12]
   clear hw12
   have hcz:∀ j,w12.cell? ⟨w.heap.size,j,none⟩=(#[.int .i64 3,.int .i64 7,.int .i64 (p:Int),.int .i64 0,.string ⟨#[]⟩,.string ⟨#[]⟩,.string ⟨#[]⟩,.slice ak kids.length ck,.slice none 0 0,.slice av r.l.length cv,.bool false,.string ⟨#[]⟩]:Array Value)[j]?:=fun j=>cell_of_row w12 _ j _ _ _ r12
   refine bodyPost_ret (v:=.tuple #[.agg #[.int .i64 3,.int .i64 7,.int .i64 (p:Int),.int .i64 0,.string ⟨#[]⟩,.string ⟨#[]⟩,.string ⟨#[]⟩,.slice ak kids.length ck,.slice none 0 0,.slice av r.l.length cv,.bool false,.string ⟨#[]⟩],.int .i64 0]) (by simp[results,Tryz.results14,go_sem,hcz]) rfl ?_
   have C3:=HC3.out
   have hpl:=(isB_lt hcl)
   have far:∀ k,k≠g→k≠w.heap.size+1→k≠w.heap.size→w12.heap[k]?=w3.heap[k]?:=fun k h1 h2 h3=>by
    by_cases hlt:k<w3.heap.size
    ·exact (s12 k h3).trans (((Keep.grown g6).block k ⟨by omega,h1⟩).trans ((s5 k h2).trans ((Keep.grown g4).block k ⟨hlt,h1⟩)))
    ·rw[Array.getElem?_eq_none (by omega),Array.getElem?_eq_none (by omega)]
   refine C3.post hg (r2:=fresh (r.at'+1)) (v2:=.slice none 0 0) ⟨?_,HasV.nil 2 _,(fun e=>by cases e)⟩ ⟨b12.os.trans (g6.os.trans (o5.1.trans g4.os)),b12.tape.trans (g6.tape.trans (o5.2.1.trans g4.tape)),b12.output.trans (g6.output.trans (o5.2.2.1.trans g4.output)),by omega,fun k hk=>far k hk.1 hk.2.2 hk.2.1⟩ (.inr ⟨rfl,rfl,rfl⟩) ?_ (fun y h=>?_)
   ·have:=(s12 g (by omega)).trans HA6.out
    simpa [fresh,FlAt] using this
   ·rw[ho,hoL]
    exact ⟨rfl,rfl⟩
   ·rw[ho,hoL] at h
    injection h with h
    exact fresh_ok (by omega)
  ·clear hLP
   obtain ⟨cpk,hpk⟩:∃ cpk,pkN s r.at'=cpk:=⟨_,rfl⟩
   have hne:¬ ((cpk:Int)=93):=by rw[isB_pk s r.at' 93 (by decide),hpk] at hcl;have:=of_decide_eq_false hcl;omega
   have CP:=flPeek_is cpk g s n r.at' (r.fin:Int) (.slice av r.l.length cv) r.same wr C.st.cells (by omega) hpk
   go_wp2_with fail
   refine CP.mono ?_
   rintro e w2 ⟨rfl,j2,rfl⟩
   clear CP hpk
   obtain ⟨w3,hw3⟩:∃ w3,w3=wr.drewN j2:=⟨_,rfl⟩
   have C3:CollM g s n 3 p w w3 r (.slice av r.l.length cv) kids (.slice ak kids.length ck) cs R:=by rw[hw3];exact C.turn (w2:=wr.drewN j2) hg (C.st.keep (fun k _ _=>rfl)) ((Keep.refl _ _).drewN j2) (NewV.self (by simp))
   rw[←hw3]
   clear hw3 C
   have A3:=C3.st.cells
   have hg3:=A3.lt
   have A3d:FlAt g s n (r.at':Int) (r.fin:Int) (.slice av r.l.length cv) r.same w3.drew:=A3
   have A3a:∀ ob,FlAt g s n (r.at':Int) (r.fin:Int) (.slice av r.l.length cv) r.same (w3.alloc ob).drew:=fun ob=>(heap_alloc_old w3 ob hg3).trans A3
   have A3b:∀ ob,FlAt g s n (r.at':Int) (r.fin:Int) (.slice av r.l.length cv) r.same (w3.drew.alloc ob):=fun ob=>(heap_alloc_old w3 ob hg3).trans A3
   have q3:=A3.cell
   have q3d:=A3d.cell
   have q3a:=fun ob=>(A3a ob).cell
   have q3b:=fun ob=>(A3b ob).cell
   have HC3:=Lib.hid C3
   clear C3
   have t3:=HC3.out.two
   have CTake:∀ W:World,W.heap=w3.heap∧W.os=w3.os∧W.tape=w3.tape∧W.output=w3.output→True:=fun _ _=>trivial
   clear CTake
   go_upto_region 14 with fail
   go_cut [10] from 40 to 85 (fun v10 wq=>v10=.pointer (some ⟨w3.heap.size,0,none⟩)∧Hid (TakeM g s n r (.slice av r.l.length cv) w3 wq))
   case first=>
    go_region_with (go_at_call 20;refine (flTake_is g s n (r.at':Int) (r.fin:Int) av r.l.length cv r.same _ (by first|exact A3|exact A3d|exact A3a _|exact A3b _)).mono ?_;rintro e w4 ⟨rfl,A4,g4,z4⟩;have q4:=A4.cell;first|(have eE4:w4.heap[w3.heap.size]?=some (.cells #[.int .i64 0,.slice none 0 0,.slice none 0 0] 55 (0,0)):=(g4.block _ (by simp) (fun e=>by injection e with e;omega)).trans (heap_alloc_new _ _);have qE4:∀ j,w4.cell? ⟨w3.heap.size,j,none⟩=(#[.int .i64 0,.slice none 0 0,.slice none 0 0]:Array Value)[j]?:=fun j=>cell_of_row w4 _ j _ _ _ eE4;have fE4:∀ j,w4.frozen? ⟨w3.heap.size,j,none⟩=false:=fun j=>frozen_of_row w4 _ j _ _ eE4;have TM:TakeM g s n r (.slice av r.l.length cv) w3 (((w4.setCell ⟨w3.heap.size,0,none⟩ (.int .i64 (r.at':Int))).setCell ⟨w3.heap.size,1,none⟩ (.slice av r.l.length cv)).setCell ⟨w3.heap.size,2,none⟩ (.slice none 0 0)):=TakeM.ii g4 _ ⟨rfl,rfl,rfl,rfl⟩ hg3 A4 _ _ _ eE4;have HTM:=Lib.hid TM;clear TM)|(have TM:TakeM g s n r (.slice av r.l.length cv) w3 (w4.alloc (.cells #[.int .i64 (r.at':Int),.slice av r.l.length cv,.slice none 0 0] 55)):=TakeM.i g4 ⟨rfl,rfl,rfl,rfl⟩ hg3 A4 z4;have HTM:=Lib.hid TM;clear TM))
    all_goals
     go_wp2
     go_meet
     case rel=>exact ⟨rfl,HTM⟩
   case rest=>
    obtain ⟨rfl,HT⟩:=hcut
    clear A3 A3d A3a A3b q3 q3d q3a q3b
    have T:=HT.out
    have hz3:=T.keep.size
    have hfl:w3.heap.size<wc.heap.size:=(Array.getElem?_eq_some_iff.1 T.ent).1
    have hlt:r.l.length≤20000:=by have:=wf.few;omega
    have Lc:HasV 2 wc (.slice av r.l.length cv) r.l.length (comV r.l):=HC3.out.st.has.keep fun k e h=>T.keep.block k ⟨h,fun e2=>HC3.out.st.apart (by rw[e,e2])⟩
    have hap:=HC3.out.st.apart
    have hfv:(Value.slice av r.l.length cv).ownBlock≠some w3.heap.size:=fun e=>by have:=HC3.out.st.has.own _ e;omega
    have Bc:Bs w0 wc [.slice av r.l.length cv,blkV w3.heap.size]:=hB.next hg0 (HC3.out.keep.trans T.keep (fun k hk=>⟨by have:=hk.1;omega,hk.2.1⟩)) (fun u hu k e=>by
     simp only[List.mem_cons,List.not_mem_nil,or_false] at hu
     rcases hu with rfl|rfl
     ·exact .inl (by have:=HC3.out.vnew k e;omega)
     ·injection e with e;have e:w3.heap.size=k:=e;exact .inl (by omega))
    have CEn:=HE.out r.at' r.fin w3.heap.size (.slice av r.l.length cv) r.l oE wc (T.st.rs ⟨wf.le,wf.top,by have:=wf.few;show 0+r.fin≤r.at';omega,fun e=>by cases e⟩) T.ent Lc hap hfv (by omega) hlt Bc hoE
    rw[show ((deep+1:Nat):Int)=(deep:Int)+1 by omega] at CEn
    have HL:=Lib.hid Lc
    clear T Lc Bc HE
    rcases hrest with ⟨q,cq,rfl,hoL⟩|⟨y,oB,rfl,hbe,hrest⟩
    ·go_wp2_with fail
     refine CEn.mono ?_
     rintro e wB ⟨cE,rE,vE,rfl,RE,NE,KE,hfE,rfl,hcE,hqE⟩
     clear CEn
     have CB:=HC3.out.entry hg HT.out RE NE KE
     obtain ⟨avE,cvE,rfl⟩:=RE.has.form
     have hcb:(cE != 0)=true:=by rw[bne,Bool.not_eq_eq_eq_not,Bool.not_true,beq_eq_false_iff_ne];exact hcE
     have raB:=CB.res
     have rnB:=CB.row
     have qnB:∀ j,wB.cell? ⟨w.heap.size+1,j,none⟩=(#[.int .i64 3,.int .i64 7,.int .i64 (p:Int),.int .i64 0,.string ⟨#[]⟩,.string ⟨#[]⟩,.string ⟨#[]⟩,.slice ak kids.length ck,.slice none 0 0,.slice none 0 0,.bool false,.string ⟨#[]⟩]:Array Value)[j]?:=fun j=>cell_of_row wB _ j _ _ _ rnB
     have qaB:∀ j,wB.cell? ⟨w.heap.size,j,none⟩=(#[.int .i64 0,.int .i64 0,.int .i64 0,.int .i64 0,.string ⟨#[]⟩,.string ⟨#[]⟩,.string ⟨#[]⟩,.slice none 0 0,.slice none 0 0,.slice none 0 0,.bool false,.string ⟨#[]⟩]:Array Value)[j]?:=fun j=>cell_of_row wB _ j _ _ _ raB
     have faB:∀ j,wB.frozen? ⟨w.heap.size,j,none⟩=false:=fun j=>frozen_of_row wB _ j _ _ raB
     have HCB:=Lib.hid CB
     have ra2:=Lib.hid raB
     have hzz:=Lib.hid hcE
     clear CB raB rnB hcE RE NE KE
     go_wp2
     rw[Exit.noGoto_ret]
     obtain ⟨w12,hw12⟩:∃ w12,w12=((((((((((((wB.setCell ⟨w.heap.size,0,none⟩ (.int .i64 3)).setCell ⟨w.heap.size,1,none⟩ (.int .i64 7)).setCell ⟨w.heap.size,2,none⟩ (.int .i64 (p:Int))).setCell ⟨w.heap.size,3,none⟩ (.int .i64 0)).setCell ⟨w.heap.size,4,none⟩ (.string ⟨#[]⟩)).setCell ⟨w.heap.size,5,none⟩ (.string ⟨#[]⟩)).setCell ⟨w.heap.size,6,none⟩ (.string ⟨#[]⟩)).setCell ⟨w.heap.size,7,none⟩ (.slice ak kids.length ck)).setCell ⟨w.heap.size,8,none⟩ (.slice none 0 0)).setCell ⟨w.heap.size,9,none⟩ (.slice none 0 0)).setCell ⟨w.heap.size,10,none⟩ (.bool false)).setCell ⟨w.heap.size,11,none⟩ (.string ⟨#[]⟩)):=⟨_,rfl⟩
     have r12:w12.heap[w.heap.size]?=some (.cells #[.int .i64 3,.int .i64 7,.int .i64 (p:Int),.int .i64 0,.string ⟨#[]⟩,.string ⟨#[]⟩,.string ⟨#[]⟩,.slice ak kids.length ck,.slice none 0 0,.slice none 0 0,.bool false,.string ⟨#[]⟩] 30 (0,0)):=by rw[hw12];exact row12_set wB (hg:=ra2.out) ..
     have b12:Below w.heap.size wB w12:=by rw[hw12];exact row12_below wB _ _ (Nat.le_refl _) _ _ _ _ _ _ _ _ _ _ _ _
     have z12:w12.heap.size=wB.heap.size:=by rw[hw12,row12_size]
     have s12:∀ k,¬ k=w.heap.size→w12.heap[k]?=wB.heap[k]?:=fun k hk=>by rw[hw12];exact row12_other wB _ k hk ..
     rw[←hw12]
     clear hw12
     have hcz:∀ j,w12.cell? ⟨w.heap.size,j,none⟩=(#[.int .i64 3,.int .i64 7,.int .i64 (p:Int),.int .i64 0,.string ⟨#[]⟩,.string ⟨#[]⟩,.string ⟨#[]⟩,.slice ak kids.length ck,.slice none 0 0,.slice none 0 0,.bool false,.string ⟨#[]⟩]:Array Value)[j]?:=fun j=>cell_of_row w12 _ j _ _ _ r12
     refine bodyPost_ret (v:=.tuple #[.agg #[.int .i64 3,.int .i64 7,.int .i64 (p:Int),.int .i64 0,.string ⟨#[]⟩,.string ⟨#[]⟩,.string ⟨#[]⟩,.slice ak kids.length ck,.slice none 0 0,.slice none 0 0,.bool false,.string ⟨#[]⟩],.int .i64 cE]) (by simp[results,Tryz.results14,go_sem,hcz]) rfl ?_
     have CB:=HCB.out
     have t2:=CB.two
     refine CB.post hg (CB.st.keep (fun k hlt hk=>s12 k (by rcases hk with rfl|hk;omega;have:=CB.vnew k hk;omega))) ⟨b12.os,b12.tape,b12.output,by omega,fun k hk=>s12 k hk.2.1⟩ (.inl ⟨rfl,rfl,rfl⟩) ?_ (fun z h=>by rw[ho,hoL] at h;cases h)
     rw[ho,hoL]
     exact ⟨rfl,hzz.out,hqE⟩
    ·obtain ⟨ld,ks,rE⟩:=y
     have hfar:=itemP_far hc hh hoE htop
     have hk12:ks.length=2∨((true:Bool)=true∧ks.length=1):=(by rcases hfar.2.2.2 with ⟨z,e,_⟩|⟨_,k,v,e,_⟩;exact .inr ⟨rfl,by rw[show ks=_ from e];rfl⟩;exact .inl (by rw[show ks=_ from e];rfl))
     have hks:ks.length=1∨ks.length=2:=by
      rcases hk12 with h|h
      ·exact .inr h
      ·exact .inl h.2
     have hfr1:r.at'<rE.at':=hfar.1
     have hfr2:rE.at'≤s.size:=hfar.2.1
     have hfr3:ld.length≤r.l.length+s.size:=hfar.2.2.1
     clear hfar
     go_wp2_with fail
     refine CEn.mono ?_
     rintro e wB ⟨cE,rE',vE,rfl,RE,NE,KE,hfE,rfl,hrE,wfE,hhd,lv,kb,m,cap,arr,R',F⟩
     obtain rfl:rE=rE':=hrE.symm
     clear CEn
     have RE:RSb g s n rE vE wB:=RE
     have wfE:WFr s rE:=wfE
     have F:FndM g w3.heap.size (r.at':Int) wc wB [.slice av r.l.length cv,blkV w3.heap.size] vE ld ks lv kb m cap arr R':=F
     obtain ⟨hm1,hmc,hcm,hmsz⟩:=F.len
     have hm1:m=ks.length:=hm1
     subst hm1
     have CBe:=flBehind_is g s n rE vE 93 oB wB (RE.rs wfE) hs (by decide) hbe
     have hkbB:kb<wB.heap.size:=(Array.getElem?_eq_some_iff.1 F.kids).1
     have hzB:=KE.size
     obtain ⟨alv,clv,rfl⟩:=F.lead.form
     obtain ⟨k0,m0,hAb⟩:=Abv.ex s r.at'
     have hkbn:=F.new.1
     have hvkb:=F.new.2.1
     have HF:=Lib.hid F
     have HRE:=Lib.hid RE
     have HNE:=Lib.hid NE
     have HKE:=Lib.hid KE
     have HHD:=Lib.hid hhd
     have HAB:=Lib.hid hAb
     clear F RE NE KE hhd hAb
     go_wp2_with fail
     refine CBe.mono ?_
     rintro e wD ⟨cB,vB,rB,rfl,RB,NB,KB,resB⟩
     clear CBe
     have hzD:=KB.size
     have I7:LoopI s n col true 93 deep 3 p o (gk-1) ⟨left rB.l rB.same,false,rB.fin,rB.at'⟩ (kids++nodesK true r.at' m0 ld (trailK rB ks)) cB:=by
      rcases hrest with ⟨q,cq,rfl,hoL⟩|⟨b,k1,m1,rfl,hAb1,hLP⟩
      ·obtain ⟨rfl,hc0,rfl⟩:=resB
       exact ⟨fun e=>absurd e hc0,fun _=>by rw[ho,hoL];rfl⟩
      ·obtain ⟨rfl,rfl⟩:=resB
       obtain ⟨-,rfl⟩:=HAB.out.uniq hAb1
       have hb:=behindP_far hbe hfr2
       have hb1:rE.at'≤rB.at':=hb.1
       have hln:=nodesK_len true r.at' m0 ld (trailK rB ks) (by rw[trailK_len rB ks hks];exact hks)
       have wfB:=RB.ok
       exact ⟨fun _=>⟨left_ok wfB,by rw[List.length_append];show _≤2*rB.at';omega,by show _≤rB.at'+_;omega,oL,ho,hLP⟩,fun h=>absurd rfl h⟩
     have FD:wD.heap[w3.heap.size]?=some (.cells #[.int .i64 (r.at':Int),.slice alv ld.length clv,.slice (some ⟨kb,0,none⟩) ks.length cap] 55 (0,0)):=(KB.block _ ⟨by omega,by omega,fun u hu e=>by rw[List.mem_singleton] at hu;subst hu;exact hfE e⟩).trans HF.out.cells
     have qfD:∀ j,wD.cell? ⟨w3.heap.size,j,none⟩=(#[.int .i64 (r.at':Int),.slice alv ld.length clv,.slice (some ⟨kb,0,none⟩) ks.length cap]:Array Value)[j]?:=fun j=>cell_of_row wD _ j _ _ _ FD
     have hkD:wD.heap[kb]?=some (.cells arr 30 (0,0)):=(KB.block kb ⟨hkbB,by omega,fun u hu e=>by rw[List.mem_singleton] at hu;subst hu;exact hvkb e⟩).trans HF.out.kids
     have CTr:=flTrail_is g s n rB vB kb ((ks.length-1)*12) arr wD RB hkD (by omega) (by omega) (fun e=>by
      rcases NB kb e with h|⟨u,hu,h⟩
      ·omega
      ·rw[List.mem_singleton] at hu;subst hu;exact hvkb h)
     have HI7:=Lib.hid I7
     have HFD:=Lib.hid FD
     have HRB:=Lib.hid RB
     have HNB:=Lib.hid NB
     have HKB:=Lib.hid KB
     clear I7 FD RB NB KB resB hrest hbe hkD
     go_wp2_with fail
     refine CTr.mono ?_
     rintro e wE ⟨rfl,vT,RT,hvT,zT,KT,rkT⟩
     clear CTr qfD
     obtain ⟨CE2,EE⟩:=HC3.out.behind hg HT.out HRE.out HNE.out HKE.out hfE HF.out hks HHD.out HNB.out HKB.out hvT RT.b zT KT rkT
     have rowE:wE.heap[w3.heap.size]?=some (.cells #[.int .i64 (r.at':Int),.slice alv ld.length clv,.slice (some ⟨kb,0,none⟩) ks.length cap] 55 (0,0)):=(KT.block _ ⟨by omega,by omega⟩).trans HFD.out
     have CN:=flNodesK_is true 3 rfl g s n (rB.at':Int) (rB.fin:Int) vT false (.slice alv ld.length clv) ld kb ks.length cap r.at' k0 m0 _ R' (trailK rB ks) wE.drew RT.cells hs htop HAB.out (EE.lead.keep fun k _ _=>rfl) EE.kids EE.size.1 hmc hcm EE.size.2 (by rw[trailK_len rB ks hks];simpa using hk12) (IsKL.frame (w:=wE) (w':=wE.drew) (fun b hb=>⟨hb,rfl⟩) _ _ EE.nodes) (by omega) EE.kbn.2.2.2 HF.out.leadN.2.1 (fun b hb=>⟨(EE.own b hb).1,(EE.own b hb).2.2.1,(EE.own b hb).2.2.2.2⟩) (by omega) (fun x hx=>by have:=EE.head x hx;omega)
     have qnE:∀ j,wE.cell? ⟨w.heap.size+1,j,none⟩=(#[.int .i64 3,.int .i64 7,.int .i64 (p:Int),.int .i64 0,.string ⟨#[]⟩,.string ⟨#[]⟩,.string ⟨#[]⟩,.slice ak kids.length ck,.slice none 0 0,.slice none 0 0,.bool false,.string ⟨#[]⟩]:Array Value)[j]?:=fun j=>cell_of_row wE _ j _ _ _ CE2.row
     have qfE:∀ j,wE.cell? ⟨w3.heap.size,j,none⟩=(#[.int .i64 (r.at':Int),.slice alv ld.length clv,.slice (some ⟨kb,0,none⟩) ks.length cap]:Array Value)[j]?:=fun j=>cell_of_row wE _ j _ _ _ rowE
     have qnEd:∀ j,wE.drew.cell? ⟨w.heap.size+1,j,none⟩=(#[.int .i64 3,.int .i64 7,.int .i64 (p:Int),.int .i64 0,.string ⟨#[]⟩,.string ⟨#[]⟩,.string ⟨#[]⟩,.slice ak kids.length ck,.slice none 0 0,.slice none 0 0,.bool false,.string ⟨#[]⟩]:Array Value)[j]?:=qnE
     have qfEd:∀ j,wE.drew.cell? ⟨w3.heap.size,j,none⟩=(#[.int .i64 (r.at':Int),.slice alv ld.length clv,.slice (some ⟨kb,0,none⟩) ks.length cap]:Array Value)[j]?:=qfE
     have hlgE:=HF.out.leadN.2.1
     have hlenK:kids.length≤20000:=by omega
     have hln2:=nodesK_len true r.at' m0 ld (trailK rB ks) (by rw[trailK_len rB ks hks];exact hks)
     obtain ⟨nks,hnks⟩:∃ nks,nks=nodesK true r.at' m0 ld (trailK rB ks):=⟨_,rfl⟩
     rw[←hnks] at CN hln2 HI7
     clear hnks
     have HCE:=Lib.hid CE2
     have HEE:=Lib.hid EE
     clear RT KT rkT CE2 EE rowE hvT
     go_upto_region 20 with fail
     go_region_law (first
      | (refine step_appendK rfl _ _ rfl (.slice ak kids.length ck) kids.length cs kb2 nks.length cap2 arr2 rfl rfl HVF rk2 hsz2 (IsKL.ones _ _ HN2.out) (by omega) ?_;intro kv7 w7 hv7 g7 n7;obtain ⟨a7,c7,rfl⟩:=hv7.form;have rn7:=(g7.block (w.heap.size+1) (by have:=HCF.out.two;omega) (fun e=>by have:=(HCF.out.knew _ e.symm).1;omega)).trans HCF.out.row;have q7:∀ j,w7.cell? ⟨w.heap.size+1,j,none⟩=(#[.int .i64 3,.int .i64 7,.int .i64 (p:Int),.int .i64 0,.string ⟨#[]⟩,.string ⟨#[]⟩,.string ⟨#[]⟩,.slice ak kids.length ck,.slice none 0 0,.slice none 0 0,.bool false,.string ⟨#[]⟩]:Array Value)[j]?:=fun j=>cell_of_row w7 _ j _ _ _ rn7;have f7:∀ j,w7.frozen? ⟨w.heap.size+1,j,none⟩=false:=fun j=>frozen_of_row w7 _ j _ _ rn7;have HC7:=Lib.hid (HCF.out.add hg HN2.out HR2.out hv7 g7 n7 (heap_setCell_same _ _ 7 _ _ _ rn7) ⟨rfl,rfl,rfl,by simp[World.setCell],fun k hk=>heap_setCell_other _ _ _ _ hk⟩);clear rn7 hv7 g7 n7)
      | (go_simp;go_at_call 23;refine CN.mono ?_;rintro e wF ⟨kb2,m2,cap2,arr2,R2,rfl,rfl,rk2,hsz2,N2,hR2,KN⟩;obtain ⟨CF,HR2'⟩:=HCE.out.nodesB hg t3 (fun k e=>HC3.out.has.own k e) HEE.out hlgE (fun b hb=>⟨(HC3.out.own b hb).1,(HC3.out.own b hb).2.2.1⟩) ⟨KN.os,KN.tape,KN.output,KN.size,KN.block⟩ hR2;have qnF:∀ j,wF.cell? ⟨w.heap.size+1,j,none⟩=(#[.int .i64 3,.int .i64 7,.int .i64 (p:Int),.int .i64 0,.string ⟨#[]⟩,.string ⟨#[]⟩,.string ⟨#[]⟩,.slice ak kids.length ck,.slice none 0 0,.slice none 0 0,.bool false,.string ⟨#[]⟩]:Array Value)[j]?:=fun j=>cell_of_row wF _ j _ _ _ CF.row;have HVF:=CF.has;have HCF:=Lib.hid CF;have HN2:=Lib.hid N2;have HR2:=Lib.hid HR2';clear CF N2 HR2' hR2 KN))
     all_goals
      go_wp2
      go_roundg (gk-1)
      case rel=>exact ⟨_,vT,_,_,_,_,cB,rfl,HC7.out,HI7⟩
      case measure=>omega
set_option maxRecDepth 100000 in
set_option maxHeartbeats 3200000 in
theorem flColl_l123 (w0:World) (g:Nat) (hg0:w0.heap.size≤g) (s:ByteArray) (hs:s.size≤10000) (n:Int) (col:Nat→Nat→Rd (NT × Nat)→Prop) (hc:GoesC s col) (hh:HtC s col) (deep p fin:Nat) (hd:deep<40)
  (hE:EntC w0 g s n 17 (deep+1) (fun lead q oE=>fieldP s n col lead (deep+1) q oE)) (oS:Rd Rst) (hoS:skipP s n (fresh (p+1)) oS) (o:Rd (NT × Rst))
  (hO:(∃ q c,oS=.bad q c∧o=.bad q c)∨∃ r1 oL,oS=.ok r1∧LoopP s n col false 125 deep oL r1.at' r1.l []∧o=collO 4 p oL) (w:World) (h:RS g s n ⟨[],false,fin,p⟩ (.slice none 0 0) w) (hB:Bs w0 w []) (hb:pkN s p=123) :
  Calls Tryz.prog 14 #[.pointer (some ⟨g,0,none⟩),.int .i64 (deep:Int)] w fun e w'=>NodePost g s n w [] o e w':=by
 have hps:=(pk_lt hb (by decide)).1
 have hA:=h.cells
 have hg:=hA.lt
 have hc0:=hA.cell
 have hdI:¬ ((40:Int)≤(deep:Int)):=by omega
 have CP:=fun W H=>flPeek_is 123 g s n p (fin:Int) (.slice none 0 0) false W H (by omega) hb
 obtain ⟨W1,hW1⟩:∃ W1,W1=(w.alloc (.cells #[.int .i64 0,.int .i64 0,.int .i64 0,.int .i64 0,.string ⟨#[]⟩,.string ⟨#[]⟩,.string ⟨#[]⟩,.slice none 0 0,.slice none 0 0,.slice none 0 0,.bool false,.string ⟨#[]⟩] 30)).alloc (.cells #[.int .i64 3,.int .i64 7,.int .i64 (p:Int),.int .i64 0,.string ⟨#[]⟩,.string ⟨#[]⟩,.string ⟨#[]⟩,.slice none 0 0,.slice none 0 0,.slice none 0 0,.bool false,.string ⟨#[]⟩] 30):=⟨_,rfl⟩
 have z1:W1.heap.size=w.heap.size+2:=by rw[hW1];simp
 have b1:Below w.heap.size w W1:=by rw[hW1];exact ((Below.refl _ _).alloc (Nat.le_refl _) _).alloc (by simp) _
 have ra:W1.heap[w.heap.size]?=some (.cells #[.int .i64 0,.int .i64 0,.int .i64 0,.int .i64 0,.string ⟨#[]⟩,.string ⟨#[]⟩,.string ⟨#[]⟩,.slice none 0 0,.slice none 0 0,.slice none 0 0,.bool false,.string ⟨#[]⟩] 30 (0,0)):=by rw[hW1];exact (heap_alloc_old _ _ (by simp)).trans (heap_alloc_new w _)
 have rn:W1.heap[w.heap.size+1]?=some (.cells #[.int .i64 3,.int .i64 7,.int .i64 (p:Int),.int .i64 0,.string ⟨#[]⟩,.string ⟨#[]⟩,.string ⟨#[]⟩,.slice none 0 0,.slice none 0 0,.slice none 0 0,.bool false,.string ⟨#[]⟩] 30 (0,0)):=by
  rw[hW1]
  have:=heap_alloc_new (w.alloc (.cells #[.int .i64 0,.int .i64 0,.int .i64 0,.int .i64 0,.string ⟨#[]⟩,.string ⟨#[]⟩,.string ⟨#[]⟩,.slice none 0 0,.slice none 0 0,.slice none 0 0,.bool false,.string ⟨#[]⟩] 30)) (.cells #[.int .i64 3,.int .i64 7,.int .i64 (p:Int),.int .i64 0,.string ⟨#[]⟩,.string ⟨#[]⟩,.string ⟨#[]⟩,.slice none 0 0,.slice none 0 0,.slice none 0 0,.bool false,.string ⟨#[]⟩] 30)
  simpa using this
 have h1:=hA.below b1 hg
 have HW:=Lib.hid hW1
 have HE:=Lib.hid hE
 clear hW1 hA hE
 have hmf:∀ (fn:Fn) (first cap:Array Value) (w:World),(Instr.makeFunc fn first cap).run Tryz.prog w=.ok (.func fn first cap) w:=fun _ _ _ _=>rfl
 go_enter Tryz.func14,Tryz.ntmps14
 go_wp2_with fail
 go_step3
 go_wp2_with fail
 rw[←HW.out]
 refine (CP _ h1).mono ?_
 rintro e w2 ⟨rfl,j1,rfl⟩
 obtain ⟨W2,hW2⟩:∃ W2,W2=W1.drewN j1:=⟨_,rfl⟩
 have h2:FlAt g s n (p:Int) (fin:Int) (.slice none 0 0) false W2:=by rw[hW2];exact h1.drewN j1
 have b2:Below w.heap.size w W2:=by rw[hW2];exact below_drewN b1 j1
 have z2:W2.heap.size=w.heap.size+2:=by rw[hW2];exact z1
 have ra2:W2.heap[w.heap.size]?=some (.cells #[.int .i64 0,.int .i64 0,.int .i64 0,.int .i64 0,.string ⟨#[]⟩,.string ⟨#[]⟩,.string ⟨#[]⟩,.slice none 0 0,.slice none 0 0,.slice none 0 0,.bool false,.string ⟨#[]⟩] 30 (0,0)):=by rw[hW2];exact ra
 have rn2:W2.heap[w.heap.size+1]?=some (.cells #[.int .i64 3,.int .i64 7,.int .i64 (p:Int),.int .i64 0,.string ⟨#[]⟩,.string ⟨#[]⟩,.string ⟨#[]⟩,.slice none 0 0,.slice none 0 0,.slice none 0 0,.bool false,.string ⟨#[]⟩] 30 (0,0)):=by rw[hW2];exact rn
 rw[←hW2]
 clear hW2 h1 b1 z1 ra rn HW hc0
 have qa2:∀ j,W2.cell? ⟨w.heap.size,j,none⟩=(#[.int .i64 0,.int .i64 0,.int .i64 0,.int .i64 0,.string ⟨#[]⟩,.string ⟨#[]⟩,.string ⟨#[]⟩,.slice none 0 0,.slice none 0 0,.slice none 0 0,.bool false,.string ⟨#[]⟩]:Array Value)[j]?:=fun j=>cell_of_row W2 _ j _ _ _ ra2
 have qn2:∀ j,W2.cell? ⟨w.heap.size+1,j,none⟩=(#[.int .i64 3,.int .i64 7,.int .i64 (p:Int),.int .i64 0,.string ⟨#[]⟩,.string ⟨#[]⟩,.string ⟨#[]⟩,.slice none 0 0,.slice none 0 0,.slice none 0 0,.bool false,.string ⟨#[]⟩]:Array Value)[j]?:=fun j=>cell_of_row W2 _ j _ _ _ rn2
 have fa2:∀ j,W2.frozen? ⟨w.heap.size,j,none⟩=false:=fun j=>frozen_of_row W2 _ j _ _ ra2
 have fn2:∀ j,W2.frozen? ⟨w.heap.size+1,j,none⟩=false:=fun j=>frozen_of_row W2 _ j _ _ rn2
 have qg2:=h2.cell
 have hgn:g≠w.heap.size+1:=by omega
 go_wp2_with fail
 obtain ⟨W3,hW3⟩:∃ W3,W3=W2.setCell ⟨w.heap.size+1,0,none⟩ (.int .i64 4):=⟨_,rfl⟩
 have h3:FlAt g s n (p:Int) (fin:Int) (.slice none 0 0) false W3:=by rw[hW3];exact (heap_setCell_other _ _ _ _ hgn).trans h2
 have rn3:W3.heap[w.heap.size+1]?=some (.cells #[.int .i64 4,.int .i64 7,.int .i64 (p:Int),.int .i64 0,.string ⟨#[]⟩,.string ⟨#[]⟩,.string ⟨#[]⟩,.slice none 0 0,.slice none 0 0,.slice none 0 0,.bool false,.string ⟨#[]⟩] 30 (0,0)):=by rw[hW3];exact heap_setCell_same _ _ 0 _ _ _ rn2
 have ra3:W3.heap[w.heap.size]?=some (.cells #[.int .i64 0,.int .i64 0,.int .i64 0,.int .i64 0,.string ⟨#[]⟩,.string ⟨#[]⟩,.string ⟨#[]⟩,.slice none 0 0,.slice none 0 0,.slice none 0 0,.bool false,.string ⟨#[]⟩] 30 (0,0)):=by rw[hW3];exact (heap_setCell_other _ _ _ _ (show w.heap.size≠w.heap.size+1 by omega)).trans ra2
 have K3:Keep (Lv w.heap.size g []) w W3:=by rw[hW3];exact (Keep.of b2 (fun k hk=>hk.1)).setCell (p:=⟨w.heap.size+1,0,none⟩) (fun hk=>by have h0:w.heap.size+1<w.heap.size:=hk.1;omega) _
 rw[←hW3]
 clear hW3 h2 b2 z2 ra2 rn2 qa2 qn2 fa2 fn2 qg2 CP hmf
 refine (flPass_is g s n (p:Int) (fin:Int) ((p:Int)+1) (.slice none 0 0) false W3 h3).mono ?_
 rintro e W4 ⟨rfl,A4,g4,z4⟩
 have RS4:RS g s n (fresh (p+1)) (.slice none 0 0) W4:=⟨by simpa [fresh] using A4,HasV.nil 2 _,(fun e=>by cases e),fresh_ok (by omega)⟩
 have CS:=flSkip_of g s n (fresh (p+1)) (.slice none 0 0) oS W4 RS4 hs hoS
 clear RS4 A4 h3
 go_wp2_with fail
 refine CS.mono ?_
 rintro e W5 ⟨c5,v5,r5,rfl,RS5,N5,K5,res5⟩
 clear CS
 have C5:CollM g s n 4 p w W5 r5 v5 [] (.slice none 0 0) [] (fun _=>False):=CollM.start hg rn3 ra3 K3 g4 RS5.b N5 K5
 have I5:LoopI s n col false 125 deep 4 p o (s.size+2) r5 [] c5:=by
  rcases hO with ⟨q,c,rfl,rfl⟩|⟨r1,oL,rfl,hLP,rfl⟩
  ·obtain ⟨rfl,hc,rfl⟩:=res5
   exact ⟨fun e=>absurd e hc,fun _=>rfl⟩
  ·obtain ⟨rfl,rfl⟩:=res5
   exact ⟨fun _=>⟨RS5.ok,Nat.zero_le _,by omega,oL,rfl,hLP⟩,fun h=>absurd rfl h⟩
 have HC5:=Lib.hid C5
 have HI5:=Lib.hid I5
 clear C5 I5 RS5 N5 K5 res5 rn3 ra3 K3 g4 z4 hO hoS
 go_wp2
 go_step3
 go_wp2
 go_loopg [9] (s.size+2) (fun gk v9 wr=>∃ (r:Rst) (v:Value) (kids:List NT) (kv:Value) (cs:List Value) (R:Nat→Prop) (c:Int),v9=.int .i64 c∧CollM g s n 4 p w wr r v kids kv cs R∧Hid (LoopI s n col false 125 deep 4 p o gk r kids c))
 case atStart=>exact ⟨r5,v5,[],_,[],_,c5,rfl,HC5.out,HI5⟩
 case round=>
 obtain ⟨r,v,kids,kv,cs,R,c,rfl,C,HI⟩:=hrel
 obtain ⟨ak,ck,rfl⟩:=C.has.form
 obtain ⟨av,cv,rfl⟩:=C.st.has.form
 by_cases hcz:c=0
 rotate_left
 ·have hI:=HI.out.2 hcz
  have hcb:(c != 0)=true:=by rw[bne,Bool.not_eq_eq_eq_not,Bool.not_true,beq_eq_false_iff_ne];exact hcz
  have ra2:=C.res
  have rn2:=C.row
  have qn2:∀ j,wr.cell? ⟨w.heap.size+1,j,none⟩=(#[.int .i64 4,.int .i64 7,.int .i64 (p:Int),.int .i64 0,.string ⟨#[]⟩,.string ⟨#[]⟩,.string ⟨#[]⟩,.slice ak kids.length ck,.slice none 0 0,.slice none 0 0,.bool false,.string ⟨#[]⟩]:Array Value)[j]?:=fun j=>cell_of_row wr _ j _ _ _ rn2
  have qa2:∀ j,wr.cell? ⟨w.heap.size,j,none⟩=(#[.int .i64 0,.int .i64 0,.int .i64 0,.int .i64 0,.string ⟨#[]⟩,.string ⟨#[]⟩,.string ⟨#[]⟩,.slice none 0 0,.slice none 0 0,.slice none 0 0,.bool false,.string ⟨#[]⟩]:Array Value)[j]?:=fun j=>cell_of_row wr _ j _ _ _ ra2
  have fa2:∀ j,wr.frozen? ⟨w.heap.size,j,none⟩=false:=fun j=>frozen_of_row wr _ j _ _ ra2
  have HC:=Lib.hid C
  have ra2:=Lib.hid ra2
  have hzz:=Lib.hid hcz
  clear C HI rn2 hcz
  go_wp2
  rw[Exit.noGoto_ret]
  obtain ⟨w12,hw12⟩:∃ w12,w12=((((((((((((wr.setCell ⟨w.heap.size,0,none⟩ (.int .i64 4)).setCell ⟨w.heap.size,1,none⟩ (.int .i64 7)).setCell ⟨w.heap.size,2,none⟩ (.int .i64 (p:Int))).setCell ⟨w.heap.size,3,none⟩ (.int .i64 0)).setCell ⟨w.heap.size,4,none⟩ (.string ⟨#[]⟩)).setCell ⟨w.heap.size,5,none⟩ (.string ⟨#[]⟩)).setCell ⟨w.heap.size,6,none⟩ (.string ⟨#[]⟩)).setCell ⟨w.heap.size,7,none⟩ (.slice ak kids.length ck)).setCell ⟨w.heap.size,8,none⟩ (.slice none 0 0)).setCell ⟨w.heap.size,9,none⟩ (.slice none 0 0)).setCell ⟨w.heap.size,10,none⟩ (.bool false)).setCell ⟨w.heap.size,11,none⟩ (.string ⟨#[]⟩)):=⟨_,rfl⟩
  have r12:w12.heap[w.heap.size]?=some (.cells #[.int .i64 4,.int .i64 7,.int .i64 (p:Int),.int .i64 0,.string ⟨#[]⟩,.string ⟨#[]⟩,.string ⟨#[]⟩,.slice ak kids.length ck,.slice none 0 0,.slice none 0 0,.bool false,.string ⟨#[]⟩] 30 (0,0)):=by rw[hw12];exact row12_set wr (hg:=ra2.out) ..
  have b12:Below w.heap.size wr w12:=by rw[hw12];exact row12_below wr _ _ (Nat.le_refl _) _ _ _ _ _ _ _ _ _ _ _ _
  have z12:w12.heap.size=wr.heap.size:=by rw[hw12,row12_size]
  have s12:∀ k,¬ k=w.heap.size→w12.heap[k]?=wr.heap[k]?:=fun k hk=>by rw[hw12];exact row12_other wr _ k hk ..
  rw[←hw12]
  clear hw12
  have hcz:∀ j,w12.cell? ⟨w.heap.size,j,none⟩=(#[.int .i64 4,.int .i64 7,.int .i64 (p:Int),.int .i64 0,.string ⟨#[]⟩,.string ⟨#[]⟩,.string ⟨#[]⟩,.slice ak kids.length ck,.slice none 0 0,.slice none 0 0,.bool false,.string ⟨#[]⟩]:Array Value)[j]?:=fun j=>cell_of_row w12 _ j _ _ _ r12
  refine bodyPost_ret (v:=.tuple #[.agg #[.int .i64 4,.int .i64 7,.int .i64 (p:Int),.int .i64 0,.string ⟨#[]⟩,.string ⟨#[]⟩,.string ⟨#[]⟩,.slice ak kids.length ck,.slice none 0 0,.slice none 0 0,.bool false,.string ⟨#[]⟩],.int .i64 c]) (by simp[results,Tryz.results14,go_sem,hcz]) rfl ?_
  have C:=HC.out
  have t2:=C.two
  refine C.post hg (C.st.keep (fun k hlt hk=>s12 k (by rcases hk with rfl|hk;omega;have:=C.vnew k hk;omega))) ⟨b12.os,b12.tape,b12.output,by omega,fun k hk=>s12 k hk.2.1⟩ (.inl ⟨rfl,rfl,rfl⟩) ?_ (fun y h=>by rw[hI] at h;cases h)
  rw[hI]
  exact ⟨rfl,hzz.out,rfl⟩
 ·subst hcz
  obtain ⟨wf,hkl,hgk,oL,ho,hLP⟩:=HI.out.1 rfl
  clear HI
  have htop:=wf.top
  rcases hLP.inv with ⟨hcl,hoL⟩|⟨hcl,oE,hoE,hrest⟩
  ·clear hLP
   have hpk:pkN s r.at'=125:=by rw[isB_pk s r.at' 125 (by decide)] at hcl;exact of_decide_eq_true hcl
   have CP:=flPeek_is 125 g s n r.at' (r.fin:Int) (.slice av r.l.length cv) r.same wr C.st.cells (by omega) hpk
   go_wp2_with fail
   refine CP.mono ?_
   rintro e w2 ⟨rfl,j2,rfl⟩
   clear CP
   obtain ⟨w3,hw3⟩:∃ w3,w3=wr.drewN j2:=⟨_,rfl⟩
   have C3:CollM g s n 4 p w w3 r (.slice av r.l.length cv) kids (.slice ak kids.length ck) cs R:=by rw[hw3];exact C.turn (w2:=wr.drewN j2) hg (C.st.keep (fun k _ _=>rfl)) ((Keep.refl _ _).drewN j2) (NewV.self (by simp))
   rw[←hw3]
   clear hw3 C
   have A3:=C3.st.cells
   have HC3:=Lib.hid C3
   clear C3
   go_wp2_with fail
   refine (flTake_is g s n (r.at':Int) (r.fin:Int) av r.l.length cv r.same w3 A3).mono ?_
   rintro e w4 ⟨rfl,A4,g4,z4⟩
   have t3:=HC3.out.two
   have rn4:=((Keep.grown g4).block (w.heap.size+1) ⟨by omega,by omega⟩).trans HC3.out.row
   have fn4:∀ j,w4.frozen? ⟨w.heap.size+1,j,none⟩=false:=fun j=>frozen_of_row w4 _ j _ _ rn4
   have qn4:∀ j,w4.cell? ⟨w.heap.size+1,j,none⟩=(#[.int .i64 4,.int .i64 7,.int .i64 (p:Int),.int .i64 0,.string ⟨#[]⟩,.string ⟨#[]⟩,.string ⟨#[]⟩,.slice ak kids.length ck,.slice none 0 0,.slice none 0 0,.bool false,.string ⟨#[]⟩]:Array Value)[j]?:=fun j=>cell_of_row w4 _ j _ _ _ rn4
   have qg4:=A4.cell
   have HA4:=Lib.hid A4
   have HN4:=Lib.hid rn4
   clear A3 A4 rn4
   go_wp2_with fail
   obtain ⟨w5,hw5⟩:∃ w5,w5=w4.setCell ⟨w.heap.size+1,9,none⟩ (.slice av r.l.length cv):=⟨_,rfl⟩
   have A5:FlAt g s n (r.at':Int) (r.fin:Int) (.slice none 0 0) false w5:=by rw[hw5];exact (heap_setCell_other _ _ _ _ hgn).trans HA4.out
   have rn5:w5.heap[w.heap.size+1]?=some (.cells #[.int .i64 4,.int .i64 7,.int .i64 (p:Int),.int .i64 0,.string ⟨#[]⟩,.string ⟨#[]⟩,.string ⟨#[]⟩,.slice ak kids.length ck,.slice none 0 0,.slice av r.l.length cv,.bool false,.string ⟨#[]⟩] 30 (0,0)):=by rw[hw5];exact heap_setCell_same _ _ 9 _ _ _ HN4.out
   have s5:∀ k,k≠w.heap.size+1→w5.heap[k]?=w4.heap[k]?:=fun k hk=>by rw[hw5,heap_setCell_other _ _ _ _ hk]
   have o5:w5.os=w4.os∧w5.tape=w4.tape∧w5.output=w4.output∧w5.heap.size=w4.heap.size:=by rw[hw5];exact ⟨rfl,rfl,rfl,by simp[World.setCell]⟩
   rw[←hw5]
   clear hw5 fn4 qn4 qg4 HA4
   refine (flPass_is g s n (r.at':Int) (r.fin:Int) ((r.at':Int)+1) (.slice none 0 0) false w5 A5).mono ?_
   rintro e w6 ⟨rfl,A6,g6,z6⟩
   have rn6:=((Keep.grown g6).block (w.heap.size+1) ⟨by omega,by omega⟩).trans rn5
   have ra6:=((Keep.grown g6).block w.heap.size ⟨by omega,by omega⟩).trans ((s5 _ (by omega)).trans (((Keep.grown g4).block w.heap.size ⟨by omega,by omega⟩).trans HC3.out.res))
   have qn6:∀ j,w6.cell? ⟨w.heap.size+1,j,none⟩=(#[.int .i64 4,.int .i64 7,.int .i64 (p:Int),.int .i64 0,.string ⟨#[]⟩,.string ⟨#[]⟩,.string ⟨#[]⟩,.slice ak kids.length ck,.slice none 0 0,.slice av r.l.length cv,.bool false,.string ⟨#[]⟩]:Array Value)[j]?:=fun j=>cell_of_row w6 _ j _ _ _ rn6
   have qa6:∀ j,w6.cell? ⟨w.heap.size,j,none⟩=(#[.int .i64 0,.int .i64 0,.int .i64 0,.int .i64 0,.string ⟨#[]⟩,.string ⟨#[]⟩,.string ⟨#[]⟩,.slice none 0 0,.slice none 0 0,.slice none 0 0,.bool false,.string ⟨#[]⟩]:Array Value)[j]?:=fun j=>cell_of_row w6 _ j _ _ _ ra6
   have fa6:∀ j,w6.frozen? ⟨w.heap.size,j,none⟩=false:=fun j=>frozen_of_row w6 _ j _ _ ra6
   have ra2:=Lib.hid ra6
   have HA6:=Lib.hid A6
   clear A5 A6 rn5 rn6 ra6
   go_wp2
   rw[Exit.noGoto_ret]
   obtain ⟨w12,hw12⟩:∃ w12,w12=((((((((((((w6.setCell ⟨w.heap.size,0,none⟩ (.int .i64 4)).setCell ⟨w.heap.size,1,none⟩ (.int .i64 7)).setCell ⟨w.heap.size,2,none⟩ (.int .i64 (p:Int))).setCell ⟨w.heap.size,3,none⟩ (.int .i64 0)).setCell ⟨w.heap.size,4,none⟩ (.string ⟨#[]⟩)).setCell ⟨w.heap.size,5,none⟩ (.string ⟨#[]⟩)).setCell ⟨w.heap.size,6,none⟩ (.string ⟨#[]⟩)).setCell ⟨w.heap.size,7,none⟩ (.slice ak kids.length ck)).setCell ⟨w.heap.size,8,none⟩ (.slice none 0 0)).setCell ⟨w.heap.size,9,none⟩ (.slice av r.l.length cv)).setCell ⟨w.heap.size,10,none⟩ (.bool false)).setCell ⟨w.heap.size,11,none⟩ (.string ⟨#[]⟩)):=⟨_,rfl⟩
   have r12:w12.heap[w.heap.size]?=some (.cells #[.int .i64 4,.int .i64 7,.int .i64 (p:Int),.int .i64 0,.string ⟨#[]⟩,.string ⟨#[]⟩,.string ⟨#[]⟩,.slice ak kids.length ck,.slice none 0 0,.slice av r.l.length cv,.bool false,.string ⟨#[]⟩] 30 (0,0)):=by rw[hw12];exact row12_set w6 (hg:=ra2.out) ..
   have b12:Below w.heap.size w6 w12:=by rw[hw12];exact row12_below w6 _ _ (Nat.le_refl _) _ _ _ _ _ _ _ _ _ _ _ _
   have z12:w12.heap.size=w6.heap.size:=by rw[hw12,row12_size]
   have s12:∀ k,¬ k=w.heap.size→w12.heap[k]?=w6.heap[k]?:=fun k hk=>by rw[hw12];exact row12_other w6 _ k hk ..
   rw[←hw12]
   clear hw12
   have hcz:∀ j,w12.cell? ⟨w.heap.size,j,none⟩=(#[.int .i64 4,.int .i64 7,.int .i64 (p:Int),.int .i64 0,.string ⟨#[]⟩,.string ⟨#[]⟩,.string ⟨#[]⟩,.slice ak kids.length ck,.slice none 0 0,.slice av r.l.length cv,.bool false,.string ⟨#[]⟩]:Array Value)[j]?:=fun j=>cell_of_row w12 _ j _ _ _ r12
   refine bodyPost_ret (v:=.tuple #[.agg #[.int .i64 4,.int .i64 7,.int .i64 (p:Int),.int .i64 0,.string ⟨#[]⟩,.string ⟨#[]⟩,.string ⟨#[]⟩,.slice ak kids.length ck,.slice none 0 0,.slice av r.l.length cv,.bool false,.string ⟨#[]⟩],.int .i64 0]) (by simp[results,Tryz.results14,go_sem,hcz]) rfl ?_
   have C3:=HC3.out
   have hpl:=(isB_lt hcl)
   have far:∀ k,k≠g→k≠w.heap.size+1→k≠w.heap.size→w12.heap[k]?=w3.heap[k]?:=fun k h1 h2 h3=>by
    by_cases hlt:k<w3.heap.size
    ·exact (s12 k h3).trans (((Keep.grown g6).block k ⟨by omega,h1⟩).trans ((s5 k h2).trans ((Keep.grown g4).block k ⟨hlt,h1⟩)))
    ·rw[Array.getElem?_eq_none (by omega),Array.getElem?_eq_none (by omega)]
   refine C3.post hg (r2:=fresh (r.at'+1)) (v2:=.slice none 0 0) ⟨?_,HasV.nil 2 _,(fun e=>by cases e)⟩ ⟨b12.os.trans (g6.os.trans (o5.1.trans g4.os)),b12.tape.trans (g6.tape.trans (o5.2.1.trans g4.tape)),b12.output.trans (g6.output.trans (o5.2.2.1.trans g4.output)),by omega,fun k hk=>far k hk.1 hk.2.2 hk.2.1⟩ (.inr ⟨rfl,rfl,rfl⟩) ?_ (fun y h=>?_)
   ·have:=(s12 g (by omega)).trans HA6.out
    simpa [fresh,FlAt] using this
   ·rw[ho,hoL]
    exact ⟨rfl,rfl⟩
   ·rw[ho,hoL] at h
    injection h with h
    exact fresh_ok (by omega)
  ·clear hLP
   obtain ⟨cpk,hpk⟩:∃ cpk,pkN s r.at'=cpk:=⟨_,rfl⟩
   have hne:¬ ((cpk:Int)=125):=by rw[isB_pk s r.at' 125 (by decide),hpk] at hcl;have:=of_decide_eq_false hcl;omega
   have CP:=flPeek_is cpk g s n r.at' (r.fin:Int) (.slice av r.l.length cv) r.same wr C.st.cells (by omega) hpk
   go_wp2_with fail
   refine CP.mono ?_
   rintro e w2 ⟨rfl,j2,rfl⟩
   clear CP hpk
   obtain ⟨w3,hw3⟩:∃ w3,w3=wr.drewN j2:=⟨_,rfl⟩
   have C3:CollM g s n 4 p w w3 r (.slice av r.l.length cv) kids (.slice ak kids.length ck) cs R:=by rw[hw3];exact C.turn (w2:=wr.drewN j2) hg (C.st.keep (fun k _ _=>rfl)) ((Keep.refl _ _).drewN j2) (NewV.self (by simp))
   rw[←hw3]
   clear hw3 C
   have A3:=C3.st.cells
   have hg3:=A3.lt
   have A3d:FlAt g s n (r.at':Int) (r.fin:Int) (.slice av r.l.length cv) r.same w3.drew:=A3
   have A3a:∀ ob,FlAt g s n (r.at':Int) (r.fin:Int) (.slice av r.l.length cv) r.same (w3.alloc ob).drew:=fun ob=>(heap_alloc_old w3 ob hg3).trans A3
   have A3b:∀ ob,FlAt g s n (r.at':Int) (r.fin:Int) (.slice av r.l.length cv) r.same (w3.drew.alloc ob):=fun ob=>(heap_alloc_old w3 ob hg3).trans A3
   have q3:=A3.cell
   have q3d:=A3d.cell
   have q3a:=fun ob=>(A3a ob).cell
   have q3b:=fun ob=>(A3b ob).cell
   have HC3:=Lib.hid C3
   clear C3
   have t3:=HC3.out.two
   have CTake:∀ W:World,W.heap=w3.heap∧W.os=w3.os∧W.tape=w3.tape∧W.output=w3.output→True:=fun _ _=>trivial
   clear CTake
   go_upto_region 14 with fail
   go_cut [10] from 40 to 85 (fun v10 wq=>v10=.pointer (some ⟨w3.heap.size,0,none⟩)∧Hid (TakeM g s n r (.slice av r.l.length cv) w3 wq))
   case first=>
    go_region_with (go_at_call 20;refine (flTake_is g s n (r.at':Int) (r.fin:Int) av r.l.length cv r.same _ (by first|exact A3|exact A3d|exact A3a _|exact A3b _)).mono ?_;rintro e w4 ⟨rfl,A4,g4,z4⟩;have q4:=A4.cell;first|(have eE4:w4.heap[w3.heap.size]?=some (.cells #[.int .i64 0,.slice none 0 0,.slice none 0 0] 55 (0,0)):=(g4.block _ (by simp) (fun e=>by injection e with e;omega)).trans (heap_alloc_new _ _);have qE4:∀ j,w4.cell? ⟨w3.heap.size,j,none⟩=(#[.int .i64 0,.slice none 0 0,.slice none 0 0]:Array Value)[j]?:=fun j=>cell_of_row w4 _ j _ _ _ eE4;have fE4:∀ j,w4.frozen? ⟨w3.heap.size,j,none⟩=false:=fun j=>frozen_of_row w4 _ j _ _ eE4;have TM:TakeM g s n r (.slice av r.l.length cv) w3 (((w4.setCell ⟨w3.heap.size,0,none⟩ (.int .i64 (r.at':Int))).setCell ⟨w3.heap.size,1,none⟩ (.slice av r.l.length cv)).setCell ⟨w3.heap.size,2,none⟩ (.slice none 0 0)):=TakeM.ii g4 _ ⟨rfl,rfl,rfl,rfl⟩ hg3 A4 _ _ _ eE4;have HTM:=Lib.hid TM;clear TM)|(have TM:TakeM g s n r (.slice av r.l.length cv) w3 (w4.alloc (.cells #[.int .i64 (r.at':Int),.slice av r.l.length cv,.slice none 0 0] 55)):=TakeM.i g4 ⟨rfl,rfl,rfl,rfl⟩ hg3 A4 z4;have HTM:=Lib.hid TM;clear TM))
    all_goals
     go_wp2
     go_meet
     case rel=>exact ⟨rfl,HTM⟩
   case rest=>
    obtain ⟨rfl,HT⟩:=hcut
    clear A3 A3d A3a A3b q3 q3d q3a q3b
    have T:=HT.out
    have hz3:=T.keep.size
    have hfl:w3.heap.size<wc.heap.size:=(Array.getElem?_eq_some_iff.1 T.ent).1
    have hlt:r.l.length≤20000:=by have:=wf.few;omega
    have Lc:HasV 2 wc (.slice av r.l.length cv) r.l.length (comV r.l):=HC3.out.st.has.keep fun k e h=>T.keep.block k ⟨h,fun e2=>HC3.out.st.apart (by rw[e,e2])⟩
    have hap:=HC3.out.st.apart
    have hfv:(Value.slice av r.l.length cv).ownBlock≠some w3.heap.size:=fun e=>by have:=HC3.out.st.has.own _ e;omega
    have Bc:Bs w0 wc [.slice av r.l.length cv,blkV w3.heap.size]:=hB.next hg0 (HC3.out.keep.trans T.keep (fun k hk=>⟨by have:=hk.1;omega,hk.2.1⟩)) (fun u hu k e=>by
     simp only[List.mem_cons,List.not_mem_nil,or_false] at hu
     rcases hu with rfl|rfl
     ·exact .inl (by have:=HC3.out.vnew k e;omega)
     ·injection e with e;have e:w3.heap.size=k:=e;exact .inl (by omega))
    have CEn:=HE.out r.at' r.fin w3.heap.size (.slice av r.l.length cv) r.l oE wc (T.st.rs ⟨wf.le,wf.top,by have:=wf.few;show 0+r.fin≤r.at';omega,fun e=>by cases e⟩) T.ent Lc hap hfv (by omega) hlt Bc hoE
    rw[show ((deep+1:Nat):Int)=(deep:Int)+1 by omega] at CEn
    have HL:=Lib.hid Lc
    clear T Lc Bc HE
    rcases hrest with ⟨q,cq,rfl,hoL⟩|⟨y,oB,rfl,hbe,hrest⟩
    ·go_wp2_with fail
     refine CEn.mono ?_
     rintro e wB ⟨cE,rE,vE,rfl,RE,NE,KE,hfE,rfl,hcE,hqE⟩
     clear CEn
     have CB:=HC3.out.entry hg HT.out RE NE KE
     obtain ⟨avE,cvE,rfl⟩:=RE.has.form
     have hcb:(cE != 0)=true:=by rw[bne,Bool.not_eq_eq_eq_not,Bool.not_true,beq_eq_false_iff_ne];exact hcE
     have raB:=CB.res
     have rnB:=CB.row
     have qnB:∀ j,wB.cell? ⟨w.heap.size+1,j,none⟩=(#[.int .i64 4,.int .i64 7,.int .i64 (p:Int),.int .i64 0,.string ⟨#[]⟩,.string ⟨#[]⟩,.string ⟨#[]⟩,.slice ak kids.length ck,.slice none 0 0,.slice none 0 0,.bool false,.string ⟨#[]⟩]:Array Value)[j]?:=fun j=>cell_of_row wB _ j _ _ _ rnB
     have qaB:∀ j,wB.cell? ⟨w.heap.size,j,none⟩=(#[.int .i64 0,.int .i64 0,.int .i64 0,.int .i64 0,.string ⟨#[]⟩,.string ⟨#[]⟩,.string ⟨#[]⟩,.slice none 0 0,.slice none 0 0,.slice none 0 0,.bool false,.string ⟨#[]⟩]:Array Value)[j]?:=fun j=>cell_of_row wB _ j _ _ _ raB
     have faB:∀ j,wB.frozen? ⟨w.heap.size,j,none⟩=false:=fun j=>frozen_of_row wB _ j _ _ raB
     have HCB:=Lib.hid CB
     have ra2:=Lib.hid raB
     have hzz:=Lib.hid hcE
     clear CB raB rnB hcE RE NE KE
     go_wp2
     rw[Exit.noGoto_ret]
     obtain ⟨w12,hw12⟩:∃ w12,w12=((((((((((((wB.setCell ⟨w.heap.size,0,none⟩ (.int .i64 4)).setCell ⟨w.heap.size,1,none⟩ (.int .i64 7)).setCell ⟨w.heap.size,2,none⟩ (.int .i64 (p:Int))).setCell ⟨w.heap.size,3,none⟩ (.int .i64 0)).setCell ⟨w.heap.size,4,none⟩ (.string ⟨#[]⟩)).setCell ⟨w.heap.size,5,none⟩ (.string ⟨#[]⟩)).setCell ⟨w.heap.size,6,none⟩ (.string ⟨#[]⟩)).setCell ⟨w.heap.size,7,none⟩ (.slice ak kids.length ck)).setCell ⟨w.heap.size,8,none⟩ (.slice none 0 0)).setCell ⟨w.heap.size,9,none⟩ (.slice none 0 0)).setCell ⟨w.heap.size,10,none⟩ (.bool false)).setCell ⟨w.heap.size,11,none⟩ (.string ⟨#[]⟩)):=⟨_,rfl⟩
     have r12:w12.heap[w.heap.size]?=some (.cells #[.int .i64 4,.int .i64 7,.int .i64 (p:Int),.int .i64 0,.string ⟨#[]⟩,.string ⟨#[]⟩,.string ⟨#[]⟩,.slice ak kids.length ck,.slice none 0 0,.slice none 0 0,.bool false,.string ⟨#[]⟩] 30 (0,0)):=by rw[hw12];exact row12_set wB (hg:=ra2.out) ..
     have b12:Below w.heap.size wB w12:=by rw[hw12];exact row12_below wB _ _ (Nat.le_refl _) _ _ _ _ _ _ _ _ _ _ _ _
     have z12:w12.heap.size=wB.heap.size:=by rw[hw12,row12_size]
     have s12:∀ k,¬ k=w.heap.size→w12.heap[k]?=wB.heap[k]?:=fun k hk=>by rw[hw12];exact row12_other wB _ k hk ..
     rw[←hw12]
     clear hw12
     have hcz:∀ j,w12.cell? ⟨w.heap.size,j,none⟩=(#[.int .i64 4,.int .i64 7,.int .i64 (p:Int),.int .i64 0,.string ⟨#[]⟩,.string ⟨#[]⟩,.string ⟨#[]⟩,.slice ak kids.length ck,.slice none 0 0,.slice none 0 0,.bool false,.string ⟨#[]⟩]:Array Value)[j]?:=fun j=>cell_of_row w12 _ j _ _ _ r12
     refine bodyPost_ret (v:=.tuple #[.agg #[.int .i64 4,.int .i64 7,.int .i64 (p:Int),.int .i64 0,.string ⟨#[]⟩,.string ⟨#[]⟩,.string ⟨#[]⟩,.slice ak kids.length ck,.slice none 0 0,.slice none 0 0,.bool false,.string ⟨#[]⟩],.int .i64 cE]) (by simp[results,Tryz.results14,go_sem,hcz]) rfl ?_
     have CB:=HCB.out
     have t2:=CB.two
     refine CB.post hg (CB.st.keep (fun k hlt hk=>s12 k (by rcases hk with rfl|hk;omega;have:=CB.vnew k hk;omega))) ⟨b12.os,b12.tape,b12.output,by omega,fun k hk=>s12 k hk.2.1⟩ (.inl ⟨rfl,rfl,rfl⟩) ?_ (fun z h=>by rw[ho,hoL] at h;cases h)
     rw[ho,hoL]
     exact ⟨rfl,hzz.out,hqE⟩
    ·obtain ⟨ld,ks,rE⟩:=y
     have hfar:=fieldP_far hc hh hoE htop
     have hk12:ks.length=2∨((false:Bool)=true∧ks.length=1):=(by obtain ⟨k,v,e,_⟩:=hfar.2.2.2;exact .inl (by rw[show ks=_ from e];rfl))
     have hks:ks.length=1∨ks.length=2:=by
      rcases hk12 with h|h
      ·exact .inr h
      ·exact .inl h.2
     have hfr1:r.at'<rE.at':=hfar.1
     have hfr2:rE.at'≤s.size:=hfar.2.1
     have hfr3:ld.length≤r.l.length+s.size:=hfar.2.2.1
     clear hfar
     go_wp2_with fail
     refine CEn.mono ?_
     rintro e wB ⟨cE,rE',vE,rfl,RE,NE,KE,hfE,rfl,hrE,wfE,hhd,lv,kb,m,cap,arr,R',F⟩
     obtain rfl:rE=rE':=hrE.symm
     clear CEn
     have RE:RSb g s n rE vE wB:=RE
     have wfE:WFr s rE:=wfE
     have F:FndM g w3.heap.size (r.at':Int) wc wB [.slice av r.l.length cv,blkV w3.heap.size] vE ld ks lv kb m cap arr R':=F
     obtain ⟨hm1,hmc,hcm,hmsz⟩:=F.len
     have hm1:m=ks.length:=hm1
     subst hm1
     have CBe:=flBehind_is g s n rE vE 125 oB wB (RE.rs wfE) hs (by decide) hbe
     have hkbB:kb<wB.heap.size:=(Array.getElem?_eq_some_iff.1 F.kids).1
     have hzB:=KE.size
     obtain ⟨alv,clv,rfl⟩:=F.lead.form
     obtain ⟨k0,m0,hAb⟩:=Abv.ex s r.at'
     have hkbn:=F.new.1
     have hvkb:=F.new.2.1
     have HF:=Lib.hid F
     have HRE:=Lib.hid RE
     have HNE:=Lib.hid NE
     have HKE:=Lib.hid KE
     have HHD:=Lib.hid hhd
     have HAB:=Lib.hid hAb
     clear F RE NE KE hhd hAb
     go_wp2_with fail
     refine CBe.mono ?_
     rintro e wD ⟨cB,vB,rB,rfl,RB,NB,KB,resB⟩
     clear CBe
     have hzD:=KB.size
     have I7:LoopI s n col false 125 deep 4 p o (gk-1) ⟨left rB.l rB.same,false,rB.fin,rB.at'⟩ (kids++nodesK false r.at' m0 ld (trailK rB ks)) cB:=by
      rcases hrest with ⟨q,cq,rfl,hoL⟩|⟨b,k1,m1,rfl,hAb1,hLP⟩
      ·obtain ⟨rfl,hc0,rfl⟩:=resB
       exact ⟨fun e=>absurd e hc0,fun _=>by rw[ho,hoL];rfl⟩
      ·obtain ⟨rfl,rfl⟩:=resB
       obtain ⟨-,rfl⟩:=HAB.out.uniq hAb1
       have hb:=behindP_far hbe hfr2
       have hb1:rE.at'≤rB.at':=hb.1
       have hln:=nodesK_len false r.at' m0 ld (trailK rB ks) (by rw[trailK_len rB ks hks];exact hks)
       have wfB:=RB.ok
       exact ⟨fun _=>⟨left_ok wfB,by rw[List.length_append];show _≤2*rB.at';omega,by show _≤rB.at'+_;omega,oL,ho,hLP⟩,fun h=>absurd rfl h⟩
     have FD:wD.heap[w3.heap.size]?=some (.cells #[.int .i64 (r.at':Int),.slice alv ld.length clv,.slice (some ⟨kb,0,none⟩) ks.length cap] 55 (0,0)):=(KB.block _ ⟨by omega,by omega,fun u hu e=>by rw[List.mem_singleton] at hu;subst hu;exact hfE e⟩).trans HF.out.cells
     have qfD:∀ j,wD.cell? ⟨w3.heap.size,j,none⟩=(#[.int .i64 (r.at':Int),.slice alv ld.length clv,.slice (some ⟨kb,0,none⟩) ks.length cap]:Array Value)[j]?:=fun j=>cell_of_row wD _ j _ _ _ FD
     have hkD:wD.heap[kb]?=some (.cells arr 30 (0,0)):=(KB.block kb ⟨hkbB,by omega,fun u hu e=>by rw[List.mem_singleton] at hu;subst hu;exact hvkb e⟩).trans HF.out.kids
     have CTr:=flTrail_is g s n rB vB kb ((ks.length-1)*12) arr wD RB hkD (by omega) (by omega) (fun e=>by
      rcases NB kb e with h|⟨u,hu,h⟩
      ·omega
      ·rw[List.mem_singleton] at hu;subst hu;exact hvkb h)
     have HI7:=Lib.hid I7
     have HFD:=Lib.hid FD
     have HRB:=Lib.hid RB
     have HNB:=Lib.hid NB
     have HKB:=Lib.hid KB
     clear I7 FD RB NB KB resB hrest hbe hkD
     go_wp2_with fail
     refine CTr.mono ?_
     rintro e wE ⟨rfl,vT,RT,hvT,zT,KT,rkT⟩
     clear CTr qfD
     obtain ⟨CE2,EE⟩:=HC3.out.behind hg HT.out HRE.out HNE.out HKE.out hfE HF.out hks HHD.out HNB.out HKB.out hvT RT.b zT KT rkT
     have rowE:wE.heap[w3.heap.size]?=some (.cells #[.int .i64 (r.at':Int),.slice alv ld.length clv,.slice (some ⟨kb,0,none⟩) ks.length cap] 55 (0,0)):=(KT.block _ ⟨by omega,by omega⟩).trans HFD.out
     have CN:=flNodesK_is false 4 rfl g s n (rB.at':Int) (rB.fin:Int) vT false (.slice alv ld.length clv) ld kb ks.length cap r.at' k0 m0 _ R' (trailK rB ks) wE.drew RT.cells hs htop HAB.out (EE.lead.keep fun k _ _=>rfl) EE.kids EE.size.1 hmc hcm EE.size.2 (by rw[trailK_len rB ks hks];simpa using hk12) (IsKL.frame (w:=wE) (w':=wE.drew) (fun b hb=>⟨hb,rfl⟩) _ _ EE.nodes) (by omega) EE.kbn.2.2.2 HF.out.leadN.2.1 (fun b hb=>⟨(EE.own b hb).1,(EE.own b hb).2.2.1,(EE.own b hb).2.2.2.2⟩) (by omega) (fun x hx=>by have:=EE.head x hx;omega)
     have qnE:∀ j,wE.cell? ⟨w.heap.size+1,j,none⟩=(#[.int .i64 4,.int .i64 7,.int .i64 (p:Int),.int .i64 0,.string ⟨#[]⟩,.string ⟨#[]⟩,.string ⟨#[]⟩,.slice ak kids.length ck,.slice none 0 0,.slice none 0 0,.bool false,.string ⟨#[]⟩]:Array Value)[j]?:=fun j=>cell_of_row wE _ j _ _ _ CE2.row
     have qfE:∀ j,wE.cell? ⟨w3.heap.size,j,none⟩=(#[.int .i64 (r.at':Int),.slice alv ld.length clv,.slice (some ⟨kb,0,none⟩) ks.length cap]:Array Value)[j]?:=fun j=>cell_of_row wE _ j _ _ _ rowE
     have qnEd:∀ j,wE.drew.cell? ⟨w.heap.size+1,j,none⟩=(#[.int .i64 4,.int .i64 7,.int .i64 (p:Int),.int .i64 0,.string ⟨#[]⟩,.string ⟨#[]⟩,.string ⟨#[]⟩,.slice ak kids.length ck,.slice none 0 0,.slice none 0 0,.bool false,.string ⟨#[]⟩]:Array Value)[j]?:=qnE
     have qfEd:∀ j,wE.drew.cell? ⟨w3.heap.size,j,none⟩=(#[.int .i64 (r.at':Int),.slice alv ld.length clv,.slice (some ⟨kb,0,none⟩) ks.length cap]:Array Value)[j]?:=qfE
     have hlgE:=HF.out.leadN.2.1
     have hlenK:kids.length≤20000:=by omega
     have hln2:=nodesK_len false r.at' m0 ld (trailK rB ks) (by rw[trailK_len rB ks hks];exact hks)
     obtain ⟨nks,hnks⟩:∃ nks,nks=nodesK false r.at' m0 ld (trailK rB ks):=⟨_,rfl⟩
     rw[←hnks] at CN hln2 HI7
     clear hnks
     have HCE:=Lib.hid CE2
     have HEE:=Lib.hid EE
     clear RT KT rkT CE2 EE rowE hvT
     go_upto_region 20 with fail
     go_region_law (first
      | (refine step_appendK rfl _ _ rfl (.slice ak kids.length ck) kids.length cs kb2 nks.length cap2 arr2 rfl rfl HVF rk2 hsz2 (IsKL.ones _ _ HN2.out) (by omega) ?_;intro kv7 w7 hv7 g7 n7;obtain ⟨a7,c7,rfl⟩:=hv7.form;have rn7:=(g7.block (w.heap.size+1) (by have:=HCF.out.two;omega) (fun e=>by have:=(HCF.out.knew _ e.symm).1;omega)).trans HCF.out.row;have q7:∀ j,w7.cell? ⟨w.heap.size+1,j,none⟩=(#[.int .i64 4,.int .i64 7,.int .i64 (p:Int),.int .i64 0,.string ⟨#[]⟩,.string ⟨#[]⟩,.string ⟨#[]⟩,.slice ak kids.length ck,.slice none 0 0,.slice none 0 0,.bool false,.string ⟨#[]⟩]:Array Value)[j]?:=fun j=>cell_of_row w7 _ j _ _ _ rn7;have f7:∀ j,w7.frozen? ⟨w.heap.size+1,j,none⟩=false:=fun j=>frozen_of_row w7 _ j _ _ rn7;have HC7:=Lib.hid (HCF.out.add hg HN2.out HR2.out hv7 g7 n7 (heap_setCell_same _ _ 7 _ _ _ rn7) ⟨rfl,rfl,rfl,by simp[World.setCell],fun k hk=>heap_setCell_other _ _ _ _ hk⟩);clear rn7 hv7 g7 n7)
      | (go_simp;go_at_call 23;refine CN.mono ?_;rintro e wF ⟨kb2,m2,cap2,arr2,R2,rfl,rfl,rk2,hsz2,N2,hR2,KN⟩;obtain ⟨CF,HR2'⟩:=HCE.out.nodesB hg t3 (fun k e=>HC3.out.has.own k e) HEE.out hlgE (fun b hb=>⟨(HC3.out.own b hb).1,(HC3.out.own b hb).2.2.1⟩) ⟨KN.os,KN.tape,KN.output,KN.size,KN.block⟩ hR2;have qnF:∀ j,wF.cell? ⟨w.heap.size+1,j,none⟩=(#[.int .i64 4,.int .i64 7,.int .i64 (p:Int),.int .i64 0,.string ⟨#[]⟩,.string ⟨#[]⟩,.string ⟨#[]⟩,.slice ak kids.length ck,.slice none 0 0,.slice none 0 0,.bool false,.string ⟨#[]⟩]:Array Value)[j]?:=fun j=>cell_of_row wF _ j _ _ _ CF.row;have HVF:=CF.has;have HCF:=Lib.hid CF;have HN2:=Lib.hid N2;have HR2:=Lib.hid HR2';clear CF N2 HR2' hR2 KN))
     all_goals
      go_wp2
      go_roundg (gk-1)
      case rel=>exact ⟨_,vT,_,_,_,_,cB,rfl,HC7.out,HI7⟩
      case measure=>omega
theorem flColl_is (w0:World) (hEv:Env w0) (g:Nat) (hg0:w0.heap.size≤g) (s:ByteArray) (hs:s.size≤10000) (n:Int):∀ gg,CollC w0 g s n (collP s n gg):=by
 intro gg
 induction gg with
 | zero=>intro deep p fin o w _ _ h;exact h.elim
 | succ gg ih=>
  intro deep p fin o w hd hbr hcol h hB
  obtain ⟨hcg,hhg⟩:=collP_far s n gg
  have pk:∀ c,c≠0→isB s p c=true→pkN s p=c:=fun c h0 hb=>by
   rw[isB_pk s p c h0] at hb
   exact of_decide_eq_true hb
  rcases hcol with ⟨h40,rfl⟩|⟨h40,hcol⟩
  ·rcases hbr with hb|hb
   ·exact flColl_d91 g s hs n (deep:Int) p fin (by omega) w h (pk 91 (by decide) hb)
   ·exact flColl_d123 g s hs n (deep:Int) p fin (by omega) w h (pk 123 (by decide) hb)
  ·rcases hbr with hb|hb
   ·have hE:EntC w0 g s n 15 (deep+1) (fun lead q oE=>itemP s n (collP s n gg) lead (deep+1) q oE):=fun p fin fb lv lead o w hR hF hL hlg hlf hfg hll hB hP=>flItem_is w0 hEv g hg0 s hs n _ ih hcg hhg (deep+1) (by omega) p fin fb lv lead o w hR hF hL hlg hlf hfg hll hB hP
    rw[hb] at hcol
    rcases hcol with ⟨q,c,h1,rfl⟩|⟨b,h1,h2⟩
    ·exact flColl_l91 w0 g hg0 s hs n _ hcg hhg deep p fin h40 hE _ h1 _ (.inl ⟨q,c,rfl,rfl⟩) w h hB (pk 91 (by decide) hb)
    ·rcases h2 with ⟨q,c,h3,rfl⟩|⟨x,h3,rfl⟩
     ·exact flColl_l91 w0 g hg0 s hs n _ hcg hhg deep p fin h40 hE _ h1 _ (.inr ⟨b,_,rfl,h3,rfl⟩) w h hB (pk 91 (by decide) hb)
     ·exact flColl_l91 w0 g hg0 s hs n _ hcg hhg deep p fin h40 hE _ h1 _ (.inr ⟨b,_,rfl,h3,rfl⟩) w h hB (pk 91 (by decide) hb)
   ·have hE:EntC w0 g s n 17 (deep+1) (fun lead q oE=>fieldP s n (collP s n gg) lead (deep+1) q oE):=fun p fin fb lv lead o w hR hF hL hlg hlf hfg hll hB hP=>flField_is w0 hEv g hg0 s hs n _ ih (deep+1) (by omega) p fin fb (p:Int) lv lead o w hR hF hL hlg hlf hfg hll hB hP
    have hb91:isB s p 91=false:=isB_ne hb (by decide)
    rw[hb91] at hcol
    rcases hcol with ⟨q,c,h1,rfl⟩|⟨b,h1,h2⟩
    ·exact flColl_l123 w0 g hg0 s hs n _ hcg hhg deep p fin h40 hE _ h1 _ (.inl ⟨q,c,rfl,rfl⟩) w h hB (pk 123 (by decide) hb)
    ·rcases h2 with ⟨q,c,h3,rfl⟩|⟨x,h3,rfl⟩
     ·exact flColl_l123 w0 g hg0 s hs n _ hcg hhg deep p fin h40 hE _ h1 _ (.inr ⟨b,_,rfl,h3,rfl⟩) w h hB (pk 123 (by decide) hb)
     ·exact flColl_l123 w0 g hg0 s hs n _ hcg hhg deep p fin h40 hE _ h1 _ (.inr ⟨b,_,rfl,h3,rfl⟩) w h hB (pk 123 (by decide) hb)
end Go.Proofs.YtncngeamdechmaaGreatDoor
