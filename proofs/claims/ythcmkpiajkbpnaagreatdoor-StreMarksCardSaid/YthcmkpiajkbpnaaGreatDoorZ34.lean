/- Parts of the proof, put together from smaller texts (blanks that Lean does not want are struck). Conditions: those that each theorem writes out. -/
import Derived.Deep.MidRow
import Derived.Deep.WholeRow
import Derived.Test.YthcmkpiajkbpnaaGreatDoorZ18
import Derived.Test.YthcmkpiajkbpnaaGreatDoorZ19
import Derived.Test.YthcmkpiajkbpnaaGreatDoorZ33
namespace Go.Proofs.YthcmkpiajkbpnaaGreatDoor
open Go.RowKit
theorem infoD:(Tryz.prog.info? 46).map (fun i=>(i.zero,i.size,i.bytes))=some (some (.agg #[.slice none 0 0,.slice none 0 0,.bool false,.int .i64 0,.int .i64 0,.int .i64 0,.int .i64 0,.string ByteArray.empty,.string ByteArray.empty,.string ByteArray.empty,.slice none 0 0,.slice none 0 0,.slice none 0 0,.bool false,.string ByteArray.empty,.slice none 0 0]),16,256):=by kernel_rfl
theorem step_appendD {ops:Array Oper} {o:Oper} {a:Act} {w:World} {K:Act→World→Prop} {Q:Exit→Act→World→Prop} {E:Prop} (hgd:o.guard=none) (s x:Operand)
  (ho:o.op=.call { callee:=.builtin .append,args:=#[s,x],argTypes:=#[40,40] })
  (v:Value) (m:Nat) (cs:List Value) (kb m2 c2:Nat) (arr:Array Value) (hs:a.eval s=v) (hx:a.eval x=.slice (some ⟨kb,0,none⟩) m2 c2) (hv:HasV 16 w v m cs)
  (hk:w.heap[kb]?=some (.cells arr 46 (0,0))) (hsz:m2*16≤arr.size) (h1:∀ u∈arr.toList.take (m2*16),u.oneCell'=true) (hn:m+m2≤1000000)
  (h:∀ v' w',HasV 16 w' v' (m+m2) (cs++arr.toList.take (m2*16))→w.grownBy w' v.ownBlock→(v'.ownBlock=v.ownBlock∨v'.ownBlock=some w.heap.size)→K (a.put o.dst v') w') :
  if Region.wanted o (yielded ops a.tmps)=true then Oper.wp Tryz.prog o a w K Q else E:=by
 obtain ⟨i0,hi,hz0,hz1,hz2⟩:=info_parts infoD
 have hw:Region.wanted o (yielded ops a.tmps)=true:=by simp[Region.wanted,hgd]
 rw[if_pos hw]
 have hsrc:Src Tryz.prog 16 40 (.slice (some ⟨kb,0,none⟩) m2 c2) m2 (arr.toList.take (m2*16)) w:=Src.ofSlice w Tryz.underlying40 _ m2 c2 _ (by rw[List.length_take,Array.length_toList];omega) (fun j u hu=>by
  have hj:=(List.getElem?_eq_some_iff.1 hu).1
  rw[List.length_take] at hj
  rw[List.getElem?_take,if_pos (by omega),Array.getElem?_toList] at hu
  rw[Addr.add_lit,Nat.zero_add,cell_of_row w kb j arr _ _ hk]
  exact hu) h1
 obtain ⟨v',w',hrun,g1,g2,g3,_,_⟩:=run_append_has (P:=Tryz.prog) 40 40 o.type 46 i0 _ 16 256 Tryz.underlying40 hi hz0 hz1 hz2 rfl (by decide) w v m cs hv _ m2 _ hsrc (by unfold maxLen;omega) (by omega)
 unfold Oper.wp
 simp[execOp,ho,resolve,invoke,builtin,hs,hx,hrun,Result.andThen]
 exact h v' w' g1 g2 g3
theorem TreeZ.nat {s:ByteArray} {at':Int} {b:Bool} {x:Option NT} {L:Coms} {E C:Int} (h:TreeZ s at' b x L E C):∃ e:Nat,E=(e:Int):=by
 obtain ⟨_,o,_,h⟩:=h
 cases o with
 | ok r=>
  dsimp only at h
  split at h
  ·exact ⟨_,h.2.2.1⟩
  ·exact ⟨_,h.2.2.1⟩
 | bad p c=>exact ⟨_,h.2.2.1⟩
section
variable {g:Nat} {s:ByteArray} {w wr:World} {H:Coms} {ds:List (List UInt8)} {D:List DT} {cs:List Value} {R:Nat→Prop}
set_option maxRecDepth 100000 in
set_option maxHeartbeats 3200000 in
theorem stDoc_is {q:Nat} {mk:Bool} {x:Option NT} {F:Coms} {E:Nat} {C:Int} {hv dv kv:Value} (M:StM g s w wr q H ds D hv dv kv cs R) (_hs:s.size≤10000)
  (CT:∀ W:World,Below w.heap.size w W→Calls Tryz.prog 8 #[.string s,.int .i64 (q:Int),.bool mk] W fun e w'=>∃ (c:List Value) (lv:Value),e=.returned (.tuple #[.agg c.toArray,lv,.int .i64 (E:Int),.int .i64 C])∧Cells12 c∧ComsR (Nw W.heap.size w'.heap.size) w' lv F∧(∀ t,x=some t→IsN (Nw W.heap.size w'.heap.size) w' t c)∧Below W.heap.size W w') (hD:D.length≤100000) :
  Calls Tryz.prog 24 #[.pointer (some ⟨g,0,none⟩),.bool mk] wr fun e w'=>(C=0→e=.returned (.int .i64 0)∧∀ t,x=some t→∃ kv' cs' R',StM g s w w' E [] [] (D++[⟨H,ds,mk,t,F⟩]) (.slice none 0 0) (.slice none 0 0) kv' cs' R')∧(C≠0→e=.returned (.int .i64 C)∧StBad g w E w'):=by
 obtain ⟨ha,ca,rfl⟩:=M.hh.form
 obtain ⟨da,dc,rfl⟩:=M.hd.form
 obtain ⟨ka,kc,rfl⟩:=M.hk.form
 have hcl:=fun j=>cell_of_row wr g j _ _ _ M.row
 have hfr:=fun j=>frozen_of_row wr g j _ _ M.row
 have hg:=M.lt
 have HM:=Lib.hid M
 unfold rdsC at hcl hfr
 clear M
 go_enter Tryz.func24,Tryz.ntmps24
 have hrng:wr.rangeAt g 2 [.slice ha H.length ca,.slice da ds.length dc,.bool false,.int .i64 0,.int .i64 0,.int .i64 0,.int .i64 0,.string ⟨#[]⟩,.string ⟨#[]⟩,.string ⟨#[]⟩,.slice none 0 0,.slice none 0 0,.slice none 0 0,.bool false,.string ⟨#[]⟩,.slice none 0 0]:=(show ((rdsC s (q:Int) (.slice ha H.length ca) (.slice da ds.length dc) (.slice ka D.length kc)).extract 2 (2+16)).toList=[.slice ha H.length ca,.slice da ds.length dc,.bool false,.int .i64 0,.int .i64 0,.int .i64 0,.int .i64 0,.string ⟨#[]⟩,.string ⟨#[]⟩,.string ⟨#[]⟩,.slice none 0 0,.slice none 0 0,.slice none 0 0,.bool false,.string ⟨#[]⟩,.slice none 0 0] from rfl) ▸ World.rangeAt_of_block HM.out.row 2 16
 go_upto_region 1 with fail
 apply wp_region_list
 refine wpList_plain rfl fun K1 hK1=>?_
 go_simp
 refine hK1 _ _ ?_
 refine wpList_plain rfl fun K1 hK1=>?_
 go_simp
 refine hK1 _ _ ?_
 refine wpList_plain rfl fun K1 hK1=>?_
 go_simp
 refine hK1 _ _ ?_
 refine wpList_plain rfl fun K1 hK1=>wp_load_mid 46 _ rfl g 2 rfl [.slice ha H.length ca,.slice da ds.length dc,.bool false,.int .i64 0,.int .i64 0,.int .i64 0,.int .i64 0,.string ⟨#[]⟩,.string ⟨#[]⟩,.string ⟨#[]⟩,.slice none 0 0,.slice none 0 0,.slice none 0 0,.bool false,.string ⟨#[]⟩,.slice none 0 0] _ hrng Tryz.underlying46 rfl (by kernel_rfl) (hK1 _ _ ?_)
 refine wpList_plain rfl fun K1 hK1=>?_
 go_simp
 refine hK1 _ _ ?_
 refine wpList_plain rfl fun K1 hK1=>wp_store_new 46 _ _ rfl rfl wr.heap.size rfl #[.slice none 0 0,.slice none 0 0,.bool false,.int .i64 0,.int .i64 0,.int .i64 0,.int .i64 0,.string ⟨#[]⟩,.string ⟨#[]⟩,.string ⟨#[]⟩,.slice none 0 0,.slice none 0 0,.slice none 0 0,.bool false,.string ⟨#[]⟩,.slice none 0 0] #[.slice ha H.length ca,.slice da ds.length dc,.bool false,.int .i64 0,.int .i64 0,.int .i64 0,.int .i64 0,.string ⟨#[]⟩,.string ⟨#[]⟩,.string ⟨#[]⟩,.slice none 0 0,.slice none 0 0,.slice none 0 0,.bool false,.string ⟨#[]⟩,.slice none 0 0] rfl rfl (by kernel_rfl) rfl (by kernel_rfl) (hK1 _ _ ?_)
 refine wpList_nil ?_
 clear hrng
 obtain ⟨W1,hW1⟩:∃ W1,W1=wr.alloc (.cells #[.slice ha H.length ca,.slice da ds.length dc,.bool false,.int .i64 0,.int .i64 0,.int .i64 0,.int .i64 0,.string ⟨#[]⟩,.string ⟨#[]⟩,.string ⟨#[]⟩,.slice none 0 0,.slice none 0 0,.slice none 0 0,.bool false,.string ⟨#[]⟩,.slice none 0 0] 46):=⟨_,rfl⟩
 have b1:Below wr.heap.size wr W1:=by rw[hW1];exact (Below.refl _ _).alloc (Nat.le_refl _) _
 have z1:W1.heap.size=wr.heap.size+1:=by rw[hW1];simp
 have r1:W1.heap[wr.heap.size]?=some (.cells #[.slice ha H.length ca,.slice da ds.length dc,.bool false,.int .i64 0,.int .i64 0,.int .i64 0,.int .i64 0,.string ⟨#[]⟩,.string ⟨#[]⟩,.string ⟨#[]⟩,.slice none 0 0,.slice none 0 0,.slice none 0 0,.bool false,.string ⟨#[]⟩,.slice none 0 0] 46 (0,0)):=by rw[hW1];exact heap_alloc_new wr _
 rw[←hW1]
 clear hW1 hcl hfr
 obtain ⟨W2,hW2⟩:∃ W2,W2=W1.setCell ⟨wr.heap.size,2,none⟩ (.bool mk):=⟨_,rfl⟩
 have r2:W2.heap[wr.heap.size]?=some (.cells #[.slice ha H.length ca,.slice da ds.length dc,.bool mk,.int .i64 0,.int .i64 0,.int .i64 0,.int .i64 0,.string ⟨#[]⟩,.string ⟨#[]⟩,.string ⟨#[]⟩,.slice none 0 0,.slice none 0 0,.slice none 0 0,.bool false,.string ⟨#[]⟩,.slice none 0 0] 46 (0,0)):=by rw[hW2];exact heap_setCell_same W1 _ 2 _ _ _ r1
 have b2:Below wr.heap.size wr W2:=by rw[hW2];exact b1.setCell (p:=⟨wr.heap.size,2,none⟩) (Nat.le_refl _) _
 have z2:W2.heap.size=wr.heap.size+1:=by rw[hW2];simp[World.setCell,z1]
 have q1:=fun j=>cell_of_row W1 _ j _ _ _ r1
 have f1:=fun j=>frozen_of_row W1 _ j _ _ r1
 go_upto_region 3 with fail
 rw[←hW2]
 clear hW2 r1 q1 f1 b1 z1
 have hgd:g≠wr.heap.size:=by omega
 have M2:=HM.out.below (w2:=W2) b2
 have hcl:=fun j=>cell_of_row W2 g j _ _ _ M2.row
 unfold rdsC at hcl
 have CT2:=CT W2.drew ((HM.out.keep.trans (b2.mono HM.out.keep.size)).drew)
 have HM2:=Lib.hid M2
 have HR2:=Lib.hid r2
 clear CT M2 r2
 go_region_with (first|(go_at_call 8;refine CT2.mono ?_;rintro e w3 ⟨c,lv,rfl,h12,hF,hN,b3⟩;obtain ⟨x0,x1,x2,x3,x4,x5,x6,xa,xb,xc,xd,xe,xf,xg,xh,xi,x7,x8,rfl⟩:=h12;have b3:=(Below.refl W2.heap.size W2).drew.trans b3;have HF:=Lib.hid hF;have HN:=Lib.hid hN;obtain ⟨la,lc,rfl,_⟩:=hF;have r3:=(b3.block wr.heap.size (by show wr.heap.size<W2.heap.size;omega)).trans HR2.out;have M3:=HM2.out.below b3;have q3:=fun j=>cell_of_row w3 _ j _ _ _ r3;have f3:=fun j=>frozen_of_row w3 _ j _ _ r3;have qg3:=fun j=>cell_of_row w3 g j _ _ _ M3.row;have fg3:=fun j=>frozen_of_row w3 g j _ _ M3.row;unfold rdsC at qg3 fg3;have HM3:=Lib.hid M3;have HB3:=Lib.hid b3;have HR3:=Lib.hid r3;clear M3 b3 r3 hN hcl))
 all_goals
  obtain ⟨w4,hw4⟩:∃ w4,w4=(((((((((((((w3.setCell ⟨wr.heap.size,3,none⟩ (.int .i64 x0)).setCell ⟨wr.heap.size,4,none⟩ (.int .i64 x1)).setCell ⟨wr.heap.size,5,none⟩ (.int .i64 x2)).setCell ⟨wr.heap.size,6,none⟩ (.int .i64 x3)).setCell ⟨wr.heap.size,7,none⟩ (.string x4)).setCell ⟨wr.heap.size,8,none⟩ (.string x5)).setCell ⟨wr.heap.size,9,none⟩ (.string x6)).setCell ⟨wr.heap.size,10,none⟩ (.slice xa xb xc)).setCell ⟨wr.heap.size,11,none⟩ (.slice xd xe xf)).setCell ⟨wr.heap.size,12,none⟩ (.slice xg xh xi)).setCell ⟨wr.heap.size,13,none⟩ (.bool x7)).setCell ⟨wr.heap.size,14,none⟩ (.string x8)).setCell ⟨wr.heap.size,15,none⟩ (.slice la F.length lc)):=⟨_,rfl⟩
  have e4:w4=setAll w3 wr.heap.size [(3,.int .i64 x0),(4,.int .i64 x1),(5,.int .i64 x2),(6,.int .i64 x3),(7,.string x4),(8,.string x5),(9,.string x6),(10,.slice xa xb xc),(11,.slice xd xe xf),(12,.slice xg xh xi),(13,.bool x7),(14,.string x8),(15,.slice la F.length lc)]:=hw4
  have p4:putAll [.slice ha H.length ca,.slice da ds.length dc,.bool mk,.int .i64 0,.int .i64 0,.int .i64 0,.int .i64 0,.string ⟨#[]⟩,.string ⟨#[]⟩,.string ⟨#[]⟩,.slice none 0 0,.slice none 0 0,.slice none 0 0,.bool false,.string ⟨#[]⟩,.slice none 0 0] [(3,.int .i64 x0),(4,.int .i64 x1),(5,.int .i64 x2),(6,.int .i64 x3),(7,.string x4),(8,.string x5),(9,.string x6),(10,.slice xa xb xc),(11,.slice xd xe xf),(12,.slice xg xh xi),(13,.bool x7),(14,.string x8),(15,.slice la F.length lc)]=[.slice ha H.length ca,.slice da ds.length dc,.bool mk,.int .i64 x0,.int .i64 x1,.int .i64 x2,.int .i64 x3,.string x4,.string x5,.string x6,.slice xa xb xc,.slice xd xe xf,.slice xg xh xi,.bool x7,.string x8,.slice la F.length lc]:=rfl
  have r4:w4.heap[wr.heap.size]?=some (.cells #[.slice ha H.length ca,.slice da ds.length dc,.bool mk,.int .i64 x0,.int .i64 x1,.int .i64 x2,.int .i64 x3,.string x4,.string x5,.string x6,.slice xa xb xc,.slice xd xe xf,.slice xg xh xi,.bool x7,.string x8,.slice la F.length lc] 46 (0,0)):=by
   have h:=setAll_row [(3,.int .i64 x0),(4,.int .i64 x1),(5,.int .i64 x2),(6,.int .i64 x3),(7,.string x4),(8,.string x5),(9,.string x6),(10,.slice xa xb xc),(11,.slice xd xe xf),(12,.slice xg xh xi),(13,.bool x7),(14,.string x8),(15,.slice la F.length lc)] w3 _ HR3.out
   rw[p4,←e4] at h
   exact h
  have o4:∀ k,¬ k=wr.heap.size→w4.heap[k]?=w3.heap[k]?:=fun k hk=>by rw[e4];exact setAll_other hk _ _
  have z4:w4.heap.size=w3.heap.size:=by rw[e4];exact setAll_size _ _
  have b4:Below wr.heap.size w3 w4:=by rw[e4];exact setAll_below (Nat.le_refl _) _ _
  have z3:=HB3.out.size
  have ro4:w4.os=w3.os∧w4.tape=w3.tape∧w4.output=w3.output:=by rw[e4];exact setAll_rest _ _
  rw[←hw4]
  clear hw4 e4
  have n1:∀ k,(Value.slice ha H.length ca).ownBlock=some k→k≠wr.heap.size:=fun k hk=>by have:=HM.out.hh.own k hk;omega
  have n2:∀ k,(Value.slice da ds.length dc).ownBlock=some k→k≠wr.heap.size:=fun k hk=>by have:=HM.out.hd.own k hk;omega
  have n3:∀ k,(Value.slice ka D.length kc).ownBlock=some k→k≠wr.heap.size:=fun k hk=>by have:=HM.out.hk.own k hk;omega
  have M4:=HM3.out.off (w2:=w4) (d0:=wr.heap.size) (fun e=>hgd e.symm) (fun e=>n1 _ e rfl) (fun e=>n2 _ e rfl) (fun e=>n3 _ e rfl) (fun e=>by have:=(HM.out.new _ e).2.1;omega) HM.out.keep.size o4 z4 ro4
  have M5:=M4.put E
  have q4:=fun j=>cell_of_row w4 _ j _ _ _ r4
  have qg4:=fun j=>cell_of_row w4 g j _ _ _ M4.row
  have fg4:=fun j=>frozen_of_row w4 g j _ _ M4.row
  unfold rdsC at qg4 fg4
  obtain ⟨w5,hw5⟩:∃ w5,w5=w4.setCell ⟨g,1,none⟩ (.int .i64 (E:Int)):=⟨_,rfl⟩
  rw[←hw5] at M5
  have r5:w5.heap[wr.heap.size]?=w4.heap[wr.heap.size]?:=by rw[hw5];exact heap_setCell_other w4 _ _ _ (fun e=>hgd e.symm)
  have r5:=r5.trans r4
  have z5:w5.heap.size=w3.heap.size:=by rw[hw5,←z4];simp[World.setCell]
  have o5:∀ k,¬ k=g→¬ k=wr.heap.size→w5.heap[k]?=w3.heap[k]?:=fun k h1 h2=>by rw[hw5];exact (heap_setCell_other w4 _ _ _ h1).trans (o4 k h2)
  have z5a:w3.heap.size≤w5.heap.size:=Nat.le_of_eq z5.symm
  have z5b:w5.heap.size≤w3.heap.size:=Nat.le_of_eq z5
  clear z5
  have HM5:=Lib.hid M5
  have HR5:=Lib.hid r5
  clear r4 q3 f3 qg3 fg3
  rw[←hw5]
  clear hw5 q4 qg4 fg4 M4 M5 o4 z4 b4
  have q5:=fun j=>cell_of_row w5 _ j _ _ _ r5
  have qg5:=fun j=>cell_of_row w5 g j _ _ _ HM5.out.row
  have fg5:=fun j=>frozen_of_row w5 g j _ _ HM5.out.row
  unfold rdsC at qg5 fg5
  clear r5
  by_cases hC:C=0
  ·subst hC
   go_upto_region 6 with fail
   have hal:∀ (W:World) (ob:Obj),W.heap=(w5.alloc ob).heap→∀ j,j<w5.heap.size→W.heap[j]?=w5.heap[j]?:=fun W ob e j hj=>by rw[e];exact heap_alloc_old _ _ hj
   have hvk:∀ (W:World) (ob:Obj),W.heap=(w5.alloc ob).heap→HasV 16 W (.slice ka D.length kc) D.length cs:=fun W ob e=>HM5.out.hk.keep fun k _ hk=>hal W ob e k hk
   have hrb:∀ (W:World),W.heap=(w5.alloc (.cells #[.slice ha H.length ca,.slice da ds.length dc,.bool mk,.int .i64 x0,.int .i64 x1,.int .i64 x2,.int .i64 x3,.string x4,.string x5,.string x6,.slice xa xb xc,.slice xd xe xf,.slice xg xh xi,.bool x7,.string x8,.slice la F.length lc] 46)).heap→W.heap[w5.heap.size]?=some (.cells #[.slice ha H.length ca,.slice da ds.length dc,.bool mk,.int .i64 x0,.int .i64 x1,.int .i64 x2,.int .i64 x3,.string x4,.string x5,.string x6,.slice xa xb xc,.slice xd xe xf,.slice xg xh xi,.bool x7,.string x8,.slice la F.length lc] 46 (0,0)):=fun W e=>by rw[e];exact heap_alloc_new w5 _
   have hon:∀ u∈(#[.slice ha H.length ca,.slice da ds.length dc,.bool mk,.int .i64 x0,.int .i64 x1,.int .i64 x2,.int .i64 x3,.string x4,.string x5,.string x6,.slice xa xb xc,.slice xd xe xf,.slice xg xh xi,.bool x7,.string x8,.slice la F.length lc]:Array Value).toList.take (1*16),u.oneCell'=true:=by
    show ∀ u∈([.slice ha H.length ca,.slice da ds.length dc,.bool mk,.int .i64 x0,.int .i64 x1,.int .i64 x2,.int .i64 x3,.string x4,.string x5,.string x6,.slice xa xb xc,.slice xd xe xf,.slice xg xh xi,.bool x7,.string x8,.slice la F.length lc]:List Value),_
    intro u hu
    simp only[List.mem_cons,List.not_mem_nil,or_false] at hu
    rcases hu with rfl|rfl|rfl|rfl|rfl|rfl|rfl|rfl|rfl|rfl|rfl|rfl|rfl|rfl|rfl|rfl <;> rfl
   have hdd:∀ t,x=some t→∀ (W:World) (ob:Obj),W.heap=(w5.alloc ob).heap→IsD (fun k=>(Value.slice ha H.length ca).ownBlock=some k∨(Value.slice da ds.length dc).ownBlock=some k∨Nw W2.heap.size w3.heap.size k) W ⟨H,ds,mk,t,F⟩ [.slice ha H.length ca,.slice da ds.length dc,.bool mk,.int .i64 x0,.int .i64 x1,.int .i64 x2,.int .i64 x3,.string x4,.string x5,.string x6,.slice xa xb xc,.slice xd xe xf,.slice xg xh xi,.bool x7,.string x8,.slice la F.length lc]:=fun t ht W ob e=>by
    have fr:∀ k,Nw W2.heap.size w3.heap.size k→W.heap[k]?=w3.heap[k]?:=fun k hk=>(hal W ob e k (by have:=hk.2;omega)).trans (o5 k (by have:=hk.1;omega) (by have:=hk.1;omega))
    refine ⟨_,_,[.int .i64 x0,.int .i64 x1,.int .i64 x2,.int .i64 x3,.string x4,.string x5,.string x6,.slice xa xb xc,.slice xd xe xf,.slice xg xh xi,.bool x7,.string x8],_,rfl,?_,?_,?_,?_⟩
    ·exact (HM5.out.hh.toComs).frame fun k hk=>⟨.inl hk,hal W ob e k (HM5.out.hh.own k hk)⟩
    ·exact (HM5.out.hd.toTexts.2).frame fun k hk=>⟨.inr (.inl hk),hal W ob e k (HM5.out.hd.own k hk)⟩
    ·exact IsN.frame (fun k hk=>⟨.inr (.inr hk),fr k hk⟩) _ _ (HN.out t ht)
    ·exact HF.out.frame fun k hk=>⟨.inr (.inr hk),fr k hk⟩
   have HDD:=Lib.hid hdd
   have hbel:∀ (W:World) (ob:Obj),W.heap=(w5.alloc ob).heap∧W.os=w5.os∧W.tape=w5.tape∧W.output=w5.output→Below w5.heap.size w5 W:=fun W ob e=>⟨e.2.1,e.2.2.1,e.2.2.2,by rw[e.1];simp,fun k hk=>by rw[e.1];exact heap_alloc_old _ _ hk⟩
   have hgl:=HM5.out.lt
   have HBE:=Lib.hid hbel
   clear hdd hbel
   have hR2:∀ k,Nw W2.heap.size w3.heap.size k→w.heap.size≤k∧k<w5.heap.size∧k≠g∧(Value.slice ka D.length kc).ownBlock≠some k:=fun k hk=>by
    have h1:=hk.1
    have h2:=hk.2
    have h3:=HM.out.keep.size
    exact ⟨by omega,by omega,by omega,fun e=>by have:=HM.out.hk.own k e;omega⟩
   have HRR:=Lib.hid hR2
   clear hR2
   go_cut [5] from 6 to 48 (fun v wx=>v=.pointer (some ⟨wr.heap.size,0,none⟩)∧∃ a7 c7,wx.heap[g]?=some (.cells (rdsC s (E:Int) (.slice ha H.length ca) (.slice da ds.length dc) (.slice a7 (D.length+1) c7)) 62 (0,0))∧∀ t,x=some t→∀ wF:World,wF.heap[g]?=some (.cells (rdsC s (E:Int) (.slice none 0 0) (.slice none 0 0) (.slice a7 (D.length+1) c7)) 62 (0,0))→(∀ k,¬ k=g→wF.heap[k]?=wx.heap[k]?)→wF.heap.size=wx.heap.size→(wF.os=wx.os∧wF.tape=wx.tape∧wF.output=wx.output)→StM g s w wF E [] [] (D++[⟨H,ds,mk,t,F⟩]) (.slice none 0 0) (.slice none 0 0) (.slice a7 (D.length+1) c7) (cs++[.slice ha H.length ca,.slice da ds.length dc,.bool mk,.int .i64 x0,.int .i64 x1,.int .i64 x2,.int .i64 x3,.string x4,.string x5,.string x6,.slice xa xb xc,.slice xd xe xf,.slice xg xh xi,.bool x7,.string x8,.slice la F.length lc]) (fun k=>R k∨(Value.slice ha H.length ca).ownBlock=some k∨(Value.slice da ds.length dc).ownBlock=some k∨Nw W2.heap.size w3.heap.size k))
   case first=>
    go_region_law (first|(refine step_appendD rfl _ _ rfl (.slice ka D.length kc) D.length cs w5.heap.size 1 1 #[.slice ha H.length ca,.slice da ds.length dc,.bool mk,.int .i64 x0,.int .i64 x1,.int .i64 x2,.int .i64 x3,.string x4,.string x5,.string x6,.slice xa xb xc,.slice xd xe xf,.slice xg xh xi,.bool x7,.string x8,.slice la F.length lc] rfl rfl (hvk _ _ rfl) (hrb _ rfl) (Nat.le_refl 16) hon (by omega) ?_;intro kv7 w6 hv7 g7 n7;have r6:=HM5.out.row2 g7 (by exact HBE.out _ _ ⟨rfl,rfl,rfl,rfl⟩);have q6:=fun j=>cell_of_row w6 g j _ _ _ r6;have f6:=fun j=>frozen_of_row w6 g j _ _ r6;unfold rdsC at q6 f6;have HR6:=Lib.hid r6;have HADD:=Lib.hid (fun (t:NT) (ht:x=some t) (wF:World) hF hs hz hr=>HM5.out.add2 (wF:=wF) (e:=E) (R2:=Nw W2.heap.size w3.heap.size) g7 (by exact HBE.out _ _ ⟨rfl,rfl,rfl,rfl⟩) hv7 n7 (by exact HDD.out t ht _ _ rfl) HRR.out hF hs hz hr);obtain ⟨a7,c7,rfl⟩:=hv7.form;clear r6 g7 n7 hv7))
    all_goals
     go_wp2_with fail
     go_meet
     exact ⟨rfl,_,_,heap_setCell_same w6 g 18 _ _ _ HR6.out,fun t ht wF hF hs hz hr=>HADD.out t ht wF hF (fun k hk=>(hs k hk).trans (heap_setCell_other w6 _ _ _ hk)) (hz.trans (by simp[World.setCell])) hr⟩
   case rest=>
    obtain ⟨rfl,a7,c7,r7,hadd⟩:=hcut
    rename World=>w7
    have HADD:=Lib.hid hadd
    clear hadd hal hvk hrb hon HBE q5 qg5 fg5
    have q7:=fun j=>cell_of_row w7 g j _ _ _ r7
    have f7:=fun j=>frozen_of_row w7 g j _ _ r7
    unfold rdsC at q7 f7
    have pF:putAll [.string s,.int .i64 (E:Int),.slice ha H.length ca,.slice da ds.length dc,.bool false,.int .i64 0,.int .i64 0,.int .i64 0,.int .i64 0,.string ⟨#[]⟩,.string ⟨#[]⟩,.string ⟨#[]⟩,.slice none 0 0,.slice none 0 0,.slice none 0 0,.bool false,.string ⟨#[]⟩,.slice none 0 0,.slice a7 (D.length+1) c7] [(2,.slice none 0 0),(3,.slice none 0 0),(4,.bool false),(5,.int .i64 0),(6,.int .i64 0),(7,.int .i64 0),(8,.int .i64 0),(9,.string ⟨#[]⟩),(10,.string ⟨#[]⟩),(11,.string ⟨#[]⟩),(12,.slice none 0 0),(13,.slice none 0 0),(14,.slice none 0 0),(15,.bool false),(16,.string ⟨#[]⟩),(17,.slice none 0 0)]=[.string s,.int .i64 (E:Int),.slice none 0 0,.slice none 0 0,.bool false,.int .i64 0,.int .i64 0,.int .i64 0,.int .i64 0,.string ⟨#[]⟩,.string ⟨#[]⟩,.string ⟨#[]⟩,.slice none 0 0,.slice none 0 0,.slice none 0 0,.bool false,.string ⟨#[]⟩,.slice none 0 0,.slice a7 (D.length+1) c7]:=rfl
    obtain ⟨wF,hwF⟩:∃ wF,wF=((((((((((((((((w7.setCell ⟨g,2,none⟩ (.slice none 0 0)).setCell ⟨g,3,none⟩ (.slice none 0 0)).setCell ⟨g,4,none⟩ (.bool false)).setCell ⟨g,5,none⟩ (.int .i64 0)).setCell ⟨g,6,none⟩ (.int .i64 0)).setCell ⟨g,7,none⟩ (.int .i64 0)).setCell ⟨g,8,none⟩ (.int .i64 0)).setCell ⟨g,9,none⟩ (.string ⟨#[]⟩)).setCell ⟨g,10,none⟩ (.string ⟨#[]⟩)).setCell ⟨g,11,none⟩ (.string ⟨#[]⟩)).setCell ⟨g,12,none⟩ (.slice none 0 0)).setCell ⟨g,13,none⟩ (.slice none 0 0)).setCell ⟨g,14,none⟩ (.slice none 0 0)).setCell ⟨g,15,none⟩ (.bool false)).setCell ⟨g,16,none⟩ (.string ⟨#[]⟩)).setCell ⟨g,17,none⟩ (.slice none 0 0)):=⟨_,rfl⟩
    have eF:wF=setAll w7 g [(2,.slice none 0 0),(3,.slice none 0 0),(4,.bool false),(5,.int .i64 0),(6,.int .i64 0),(7,.int .i64 0),(8,.int .i64 0),(9,.string ⟨#[]⟩),(10,.string ⟨#[]⟩),(11,.string ⟨#[]⟩),(12,.slice none 0 0),(13,.slice none 0 0),(14,.slice none 0 0),(15,.bool false),(16,.string ⟨#[]⟩),(17,.slice none 0 0)]:=by simp only[setAll];exact hwF
    have hF:wF.heap[g]?=some (.cells (rdsC s (E:Int) (.slice none 0 0) (.slice none 0 0) (.slice a7 (D.length+1) c7)) 62 (0,0)):=by
     have h:=setAll_row [(2,.slice none 0 0),(3,.slice none 0 0),(4,.bool false),(5,.int .i64 0),(6,.int .i64 0),(7,.int .i64 0),(8,.int .i64 0),(9,.string ⟨#[]⟩),(10,.string ⟨#[]⟩),(11,.string ⟨#[]⟩),(12,.slice none 0 0),(13,.slice none 0 0),(14,.slice none 0 0),(15,.bool false),(16,.string ⟨#[]⟩),(17,.slice none 0 0)] w7 _ r7
     rw[pF,←eF] at h
     exact h
    have hs:∀ k,¬ k=g→wF.heap[k]?=w7.heap[k]?:=fun k hk=>by rw[eF];exact setAll_other hk _ w7
    have hz:wF.heap.size=w7.heap.size:=by rw[eF];exact setAll_size _ w7
    have hr:wF.os=w7.os∧wF.tape=w7.tape∧wF.output=w7.output:=by
     have h:=setAll_rest [(2,.slice none 0 0),(3,.slice none 0 0),(4,.bool false),(5,.int .i64 0),(6,.int .i64 0),(7,.int .i64 0),(8,.int .i64 0),(9,.string ⟨#[]⟩),(10,.string ⟨#[]⟩),(11,.string ⟨#[]⟩),(12,.slice none 0 0),(13,.slice none 0 0),(14,.slice none 0 0),(15,.bool false),(16,.string ⟨#[]⟩),(17,.slice none 0 0)] w7 (g:=g)
     rw[←eF] at h
     exact h
    have HFIN:=Lib.hid (fun (t:NT) (ht:x=some t)=>HADD.out t ht _ hF hs hz hr)
    have HWF:=Lib.hid hwF
    clear hF hs hz hr pF r7 eF hwF
    go_wp2
    go_ret
    rw[←HWF.out]
    first|exact ⟨rfl,fun t ht=>⟨_,_,_,HFIN.out t ht⟩⟩|exact ⟨fun _=>⟨rfl,fun t ht=>⟨_,_,_,HFIN.out t ht⟩⟩,fun h=>absurd rfl h⟩|exact ⟨⟨rfl,fun t ht=>⟨_,_,_,HFIN.out t ht⟩⟩,fun h=>absurd rfl h⟩
  ·have hCb:(C != 0)=true:=by simpa using hC
   go_wp2
   go_ret
   exact ⟨fun h=>absurd h hC,fun _=>⟨rfl,(cell_of_row _ g 1 _ _ _ HM5.out.row).trans rfl,HM5.out.keep⟩⟩
end
end Go.Proofs.YthcmkpiajkbpnaaGreatDoor
