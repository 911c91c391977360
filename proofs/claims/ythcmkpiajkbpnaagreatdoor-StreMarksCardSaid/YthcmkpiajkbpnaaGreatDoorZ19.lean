/- Parts of the proof, put together from smaller texts (blanks that Lean does not want are struck). Conditions: those that each theorem writes out. -/
import Derived.Deep.MidRow
import Derived.Deep.WholeRow
import Derived.Test.YthcmkpiajkbpnaaGreatDoorZ03
import Derived.Test.YthcmkpiajkbpnaaGreatDoorZ11
import Derived.Test.YthcmkpiajkbpnaaGreatDoorZ16
import Derived.Test.YthcmkpiajkbpnaaGreatDoorZ18
namespace Go.Proofs.YthcmkpiajkbpnaaGreatDoor
open Go.RowKit
theorem appendS {ops:Array Oper} {rest:List Oper} {o:Oper} {a:Act} {Q:Exit→Act→World→Prop} {w:World} (hgd:o.guard=none) (s x:Operand)
  (ho:o.op=.call { callee:=.builtin .append,args:=#[s,x],argTypes:=#[37,37] })
  (v:Value) (m:Nat) (cs:List Value) (kb m2 c2:Nat) (arr:Array Value) (hs:a.eval s=v) (hx:a.eval x=.slice (some ⟨kb,0,none⟩) m2 c2) (hv:HasV 1 w v m cs)
  (hk:w.heap[kb]?=some (.cells arr 9 (0,0))) (hsz:m2*1≤arr.size) (h1:∀ u∈arr.toList.take (m2*1),u.oneCell'=true) (hn:m+m2≤1000000)
  (h:∀ v' w',HasV 1 w' v' (m+m2) (cs++arr.toList.take (m2*1))→w.grownBy w' v.ownBlock→(v'.ownBlock=v.ownBlock∨v'.ownBlock=some w.heap.size)→wpList Tryz.prog ops Q rest (a.put o.dst v') w'):wpList Tryz.prog ops Q (o :: rest) a w:=by
 obtain ⟨i0,hi,hz0,hz1,hz2⟩:=info_parts infoS
 refine wpList_plain hgd fun K hK=>?_
 have hsrc:Src Tryz.prog 1 37 (.slice (some ⟨kb,0,none⟩) m2 c2) m2 (arr.toList.take (m2*1)) w:=Src.ofSlice w Tryz.underlying37 _ m2 c2 _ (by rw[List.length_take,Array.length_toList];omega) (fun j u hu=>by
  have hj:=(List.getElem?_eq_some_iff.1 hu).1
  rw[List.length_take] at hj
  rw[List.getElem?_take,if_pos (by omega),Array.getElem?_toList] at hu
  rw[Addr.add_lit,Nat.zero_add,cell_of_row w kb j arr _ _ hk]
  exact hu) h1
 obtain ⟨v',w',hrun,g1,g2,g3,_,_⟩:=run_append_has (P:=Tryz.prog) 37 37 o.type 9 i0 _ 1 16 Tryz.underlying37 hi hz0 hz1 hz2 rfl (by decide) w v m cs hv _ m2 _ hsrc (by unfold maxLen;omega) (by omega)
 unfold Oper.wp
 simp[execOp,ho,resolve,invoke,builtin,hs,hx,hrun,Result.andThen]
 exact hK _ _ (h v' w' g1 g2 g3)
section
variable {g:Nat} {s:ByteArray} {w wr:World} {H:Coms} {ds:List (List UInt8)} {D:List DT} {cs:List Value} {R:Nat→Prop}
set_option maxRecDepth 100000 in
set_option maxHeartbeats 1600000 in
theorem stDire_is {q t:Nat} {d cm:List UInt8} {has:Bool} {c:Int} {hv dv kv:Value} (M:StM g s w wr q H ds D hv dv kv cs R) (hs:s.size≤10000) (hq:q≤s.size) (ht:RowE s q t) (hr:U.tRead (pieceL s q t)=(d,cm,has,c)) (hTab:∀ W:World,Below wr.heap.size wr W→Lib.Utf8Tabs 1 2 W)
  (hH:H.length≤500000000) (hD:ds.length≤500000) (hdl:∀ x∈ds,x.length≤1000000) (hdd:d.length≤1000000) (b:Bool) (hb:U.tTwice ds d=b) :
  Calls Tryz.prog 23 #[.pointer (some ⟨g,0,none⟩)] wr fun e w'=>(c≠0→e=.returned (.int .i64 c)∧StBad g w q w')∧(c=0→b=true→e=.returned (.int .i64 5)∧StBad g w q w')∧(c=0→b=false→e=.returned (.int .i64 0)∧∃ hv' dv',StM g s w w' (t+1) (H++if has=true then [(cm,0)] else []) (ds++[d]) D hv' dv' kv cs R):=by
 have hts:=ht.2.1
 have hqt:=ht.1
 obtain ⟨a,hA⟩:=RowB.ex s q
 have hc:clampN (q:Int) s.size=q:=clampN_nat hq
 have CR:=fun W=>Row_is a t s (q:Int) W (by omega) (by rw[hc];exact hA) (by rw[hc];exact ht)
 have CN:=fun W hT=>direRead_is d cm has c (s.extract q t) W (by rw[ByteArray.size_extract];omega) hT (by rw[piece_ext];simpa using hr)
 unfold retRead at CN
 obtain ⟨DB,hDB⟩:∃ DB:ByteArray,DB=⟨d.toArray⟩:=⟨_,rfl⟩
 obtain ⟨CB,hCB⟩:∃ CB:ByteArray,CB=⟨cm.toArray⟩:=⟨_,rfl⟩
 rw[←hDB,←hCB] at CN
 have HDB:=Lib.hid hDB
 have HCB:=Lib.hid hCB
 obtain ⟨ha,ca,rfl⟩:=M.hh.form
 obtain ⟨da,dc,rfl⟩:=M.hd.form
 have hcl:=fun j=>cell_of_row wr g j _ _ _ M.row
 have hfr:=fun j=>frozen_of_row wr g j _ _ M.row
 have HM:=Lib.hid M
 clear M hA hc hr hDB hCB
 unfold rdsC at hcl hfr
 go_enter Tryz.func23,Tryz.ntmps23
 go_wp2_with fail
 go_quiet (first|exact Calls.quiet_of_same ((CR _).mono (by rintro e w' ⟨rfl,rfl⟩;exact ⟨rfl,rfl⟩)))
 go_wp2_with fail
 obtain ⟨W2,hW2⟩:∃ W2,W2=wr.drewN nq:=⟨_,rfl⟩
 have b2:Below wr.heap.size wr W2:=by rw[hW2];exact Go.below_drewN (Below.refl _ _) _
 have M2:=HM.out.below b2
 have hTab2:∀ W:World,Below W2.heap.size W2 W→Lib.Utf8Tabs 1 2 W:=fun W hb=>hTab W (b2.trans (hb.mono b2.size))
 rw[←hW2]
 clear hW2 hcl hfr HM CR b2 nq hTab
 have hcl:=fun j=>cell_of_row W2 g j _ _ _ M2.row
 have HM2:=Lib.hid M2
 have hS0:(W2.drew.cell? ⟨g,0,none⟩=some (.string s)∧W2.drew.cell? ⟨g,1,none⟩=some (.int .i64 (q:Int)))∧Below W2.heap.size W2 W2.drew:=⟨⟨hcl 0,hcl 1⟩,(Below.refl _ _).drew⟩
 have CS:∀ W:World,((W.cell? ⟨g,0,none⟩=some (.string s)∧W.cell? ⟨g,1,none⟩=some (.int .i64 (q:Int)))∧Below W2.heap.size W2 W)→Calls Tryz.prog 44 #[.string (s.extract q t)] W fun e w'=>e=.returned (.tuple #[.string DB,.string CB,.bool has,.int .i64 c])∧((w'.cell? ⟨g,0,none⟩=some (.string s)∧w'.cell? ⟨g,1,none⟩=some (.int .i64 (q:Int)))∧Below W2.heap.size W2 w'):=fun W hS=>by
  refine (CN W (hTab2 W hS.2)).mono ?_
  rintro e w8 ⟨rfl,a3⟩
  have b8:=hS.2.trans (a3.mono hS.2.size)
  have h8:=fun j=>cell_of_row w8 g j _ _ _ (HM2.out.below b8).row
  exact ⟨rfl,⟨h8 0,h8 1⟩,b8⟩
 clear hcl M2
 go_region_held3 (fun w'=>(w'.cell? ⟨g,0,none⟩=some (.string s)∧w'.cell? ⟨g,1,none⟩=some (.int .i64 (q:Int)))∧Below W2.heap.size W2 w') (first|(with_reducible assumption)|(with_reducible exact hS0))
  (first|(go_at_call 44;refine (CS _ (by first|(with_reducible exact hS0)|(with_reducible assumption))).mono ?_;rintro e w9 ⟨rfl,hS9⟩))
 have M9:=HM2.out.below hS9.2
 have HM9:=Lib.hid M9
 have hcl:=fun j=>cell_of_row w9 g j _ _ _ M9.row
 have hfr:=fun j=>frozen_of_row w9 g j _ _ M9.row
 unfold rdsC at hcl hfr
 clear hS9 CN CS hS0 M9 HM2
 by_cases hc0:c=0
 ·subst hc0
  obtain ⟨hT9,hX9⟩:=HM9.out.hd.toTexts
  have CW:=direTwice_is b w9.heap.size (.slice da ds.length dc) ds DB w9 hT9 (Nat.le_refl _) (by rw[HDB.out];simp[ByteArray.size];omega) (fun x hx=>by have:=hdl x hx;omega) (by rw[HDB.out];simpa using hb)
  clear hT9 hX9
  go_wp2_with fail
  refine CW.mono ?_
  rintro e w10 ⟨rfl,b10⟩
  have M10:=HM9.out.below b10
  have HM10:=Lib.hid M10
  have hcl:=fun j=>cell_of_row w10 g j _ _ _ M10.row
  have hfr:=fun j=>frozen_of_row w10 g j _ _ M10.row
  unfold rdsC at hcl hfr
  clear CW b10 M10 HM9
  cases b with
  | true=>
   go_wp2
   all_goals
    go_ret
    exact ⟨rfl,(cell_of_row _ g 1 _ _ _ HM10.out.row).trans rfl,HM10.out.keep⟩
  | false=>
   have hal:Below w10.heap.size w10 (w10.alloc (.cells #[.string DB] 9)):=(Below.refl _ _).alloc (Nat.le_refl _) _
   have hvk:HasV 1 (w10.alloc (.cells #[.string DB] 9)) (.slice da ds.length dc) ds.length (txts ds):=HM10.out.hd.below hal (Nat.le_refl _)
   have hnew:=heap_alloc_new w10 (.cells #[.string DB] 9)
   have HAL:=Lib.hid hal
   clear hal
   have hdd:txts (ds++[d])=txts ds++[.string DB]:=by rw[txts_append,HDB.out];rfl
   have hdn:(ds++[d]).length=ds.length+1:=by simp
   have HDD:=Lib.hid hdd
   have HDN:=Lib.hid hdn
   clear hdd hdn
   go_upto_region 8 with (at_builtin;refine appendS rfl _ _ rfl (.slice da ds.length dc) ds.length (txts ds) w10.heap.size 1 1 #[.string DB] rfl rfl hvk hnew (Nat.le_refl 1) (fun u hu=>by simp at hu;rw[hu];rfl) (by omega) ?_;intro dv5 w5 o5 g5 n5;have o6:HasV 1 w5 dv5 (ds++[d]).length (txts (ds++[d])):=(by rw[HDN.out,HDD.out];exact o5);have r5:=HM10.out.row3 g5 HAL.out;have M6:=HM10.out.moreD2 g5 HAL.out o6 n5;have HM6:=Lib.hid M6;obtain ⟨a5,c5,e5⟩:=o5.form;subst e5;have q5:=fun j=>cell_of_row w5 g j _ _ _ r5;have f5:=fun j=>frozen_of_row w5 g j _ _ r5;unfold rdsC at q5 f5;clear o5 o6 g5 n5 r5 M6 hvk hnew)
   obtain ⟨w6,hw6⟩:∃ w6,w6=w5.setCell ⟨g,3,none⟩ (.slice a5 (ds.length+1) c5):=⟨_,rfl⟩
   have M6:=HM6.out
   rw[←hw6] at M6 ⊢
   clear hw6 HM6 q5 f5 hcl hfr
   have HM6:=Lib.hid M6
   have hcl:=fun j=>cell_of_row w6 g j _ _ _ M6.row
   have hfr:=fun j=>frozen_of_row w6 g j _ _ M6.row
   unfold rdsC at hcl hfr
   clear M6
   cases has with
   | false=>
    go_wp2
    go_ret
    have hfin:=HM6.out.put (t+1)
    have hnil:H++(if false=true then [(cm,0)] else [])=H:=by simp
    first|exact ⟨rfl,_,_,hfin⟩|(rw[hnil];exact ⟨rfl,_,_,hfin⟩)
   | true=>
    have hal:Below w6.heap.size w6 (w6.alloc (.cells #[.string CB,.int .i64 0] 36)):=(Below.refl _ _).alloc (Nat.le_refl _) _
    have hhk:HasV 2 (w6.alloc (.cells #[.string CB,.int .i64 0] 36)) (.slice ha H.length ca) H.length (comV H):=HM6.out.hh.below hal (Nat.le_refl _)
    have hcc:ComsR (fun k=>k=w6.heap.size) (w6.alloc (.cells #[.string CB,.int .i64 0] 36)) (.slice (some ⟨w6.heap.size,0,none⟩) 1 1) [(cm,0)]:=⟨_,1,rfl,Nat.le_refl _,by decide,fun _=>⟨w6.heap.size,0,rfl,rfl,fun j hj=>by
     obtain rfl:j=0:=by simpa using hj
     have hn:=heap_alloc_new w6 (.cells #[.string CB,.int .i64 0] 36)
     refine ⟨(cell_of_row _ w6.heap.size 0 _ _ _ hn).trans ?_,(cell_of_row _ w6.heap.size 1 _ _ _ hn).trans rfl⟩
     rw[HCB.out];rfl⟩⟩
    have HAL:=Lib.hid hal
    clear hal
    go_wp2_with (at_builtin;refine appendH rfl _ _ rfl (fun k=>k=w6.heap.size) (.slice ha H.length ca) (.slice (some ⟨w6.heap.size,0,none⟩) 1 1) H [(cm,0)] rfl rfl hhk hcc (by show H.length+1≤_;omega) ?_;intro v7 w7 o7 g7 n7;have r7:=HM6.out.row1 g7 HAL.out;have M8:=HM6.out.more2 g7 HAL.out o7 n7;have HM8:=Lib.hid M8;obtain ⟨a7,c7,e7⟩:=o7.form;subst e7;have q7:=fun j=>cell_of_row w7 g j _ _ _ r7;have f7:=fun j=>frozen_of_row w7 g j _ _ r7;unfold rdsC at q7 f7;clear o7 g7 n7 r7 M8 hhk hcc)
    go_ret
    have hfin:=HM8.out.put (t+1)
    simp only[List.length_append,List.length_cons,List.length_nil] at hfin
    exact ⟨rfl,_,_,hfin⟩
 ·have hcb:(c != 0)=true:=by simpa using hc0
  go_wp2
  all_goals
   go_ret
   exact ⟨rfl,(cell_of_row _ g 1 _ _ _ HM9.out.row).trans rfl,HM9.out.keep⟩
end
end Go.Proofs.YthcmkpiajkbpnaaGreatDoor
namespace Go.Proofs.YthcmkpiajkbpnaaGreatDoor
open Go.RowKit
theorem wp_store_new {P:Program} {op:Oper} {a:Act} {w:World} {K:Act→World→Prop} {Q:Exit→Act→World→Prop} (ty:TypeId) (x y:Operand) (ho:op.op=.store ty x y) (hd:op.dst=none) (b:Nat) (hb:b=w.heap.size) (c c':Array Value) (hx:a.eval x=.pointer (some ⟨b,0,none⟩)) (hy:a.eval y=.agg c')
  (hi:(P.info? ty).map (·.size)=some c'.size) (hz:c.size=c'.size) (h1:c'.all (·.oneCell')=true) (h:K a (w.alloc (.cells c' ty))):op.wp P a (w.alloc (.cells c ty)) K Q:=by
 subst hb
 unfold Oper.wp execOp
 simp only[ho,hx,hy,Instr.storeAt,Instr.sureAddr,Sem.run_bind,Sem.run_pure,Result.andThen_ok,run_storeVar_new w ty c c' hi hz h1]
 have h2:a.put op.dst undef=a:=by rw[hd];rfl
 rw[←h2] at h
 exact h
end Go.Proofs.YthcmkpiajkbpnaaGreatDoor
namespace Go.Proofs.YthcmkpiajkbpnaaGreatDoor
open Go.RowKit
def smpU (x:UInt8):Bool:=!(decide (x=34∨x=39∨x=91∨x=123∨x=124∨x=62))
def Smp (s:ByteArray):Prop:=s.data.toList.all smpU=true
theorem Smp.byte {s:ByteArray} (h:Smp s) {p:Nat} (hp:p<s.size):∀ c,c=34∨c=39∨c=91∨c=123∨c=124∨c=62→byt s p≠c:=by
 intro c hc e
 have hl:p<s.data.toList.length:=by rw[←Lib.size_eq];exact hp
 have h1:smpU s.data.toList[p]=true:=List.all_eq_true.1 h _ (List.getElem_mem hl)
 have hb:=(show Pre s 0 s.data.toList by unfold Pre;rw[List.drop_zero];exact List.prefix_refl _).byte p hl
 rw[Nat.zero_add,e] at hb
 rw[show s.data.toList.getD p 0=s.data.toList[p] by simp[List.getD,List.getElem?_eq_getElem hl]] at hb
 generalize s.data.toList[p]=x at h1 hb
 unfold smpU at h1
 rw[Bool.not_eq_true',decide_eq_false_iff_not] at h1
 apply h1
 have:∀ k:UInt8,c=k.toNat→x=k:=fun k hk=>UInt8.toNat_inj.1 (hb.symm.trans hk)
 rcases hc with rfl|rfl|rfl|rfl|rfl|rfl
 ·exact .inl (this 34 rfl)
 ·exact .inr (.inl (this 39 rfl))
 ·exact .inr (.inr (.inl (this 91 rfl)))
 ·exact .inr (.inr (.inr (.inl (this 123 rfl))))
 ·exact .inr (.inr (.inr (.inr (.inl (this 124 rfl)))))
 ·exact .inr (.inr (.inr (.inr (.inr (this 62 rfl)))))
theorem Smp.cut {s:ByteArray} (t:Nat) (h:Smp s):Smp (cutB s t):=by
 unfold Smp at *
 rw[List.all_eq_true] at *
 intro x hx
 refine h x ?_
 unfold cutB at hx
 rw[ByteArray.data_extract,Array.toList_extract] at hx
 exact List.mem_of_mem_drop (List.mem_of_mem_take hx)
end Go.Proofs.YthcmkpiajkbpnaaGreatDoor
namespace Go.Proofs.YthcmkpiajkbpnaaGreatDoor
open Go.RowKit
def CntPost (w:World) (o:Rd (NT × Nat)) (e:Ending) (w':World):Prop:=∃ (cs:List Value) (R:Nat→Prop) (E C:Int),e=.returned (.tuple #[.agg cs.toArray,.int .i64 E,.int .i64 C])∧Cells12 cs∧(∀ k,R k→w.heap.size≤k∧k<w'.heap.size)∧Below w.heap.size w w' ∧
 match o with
 | .ok x=>C=0∧E=(x.2:Int)∧IsN R w' x.1 cs
 | .bad p c=>C=c∧c≠0∧E=(p:Int)
theorem leaf_post {w w':World} {kd st at':Int} {T:List UInt8} {tb:Bool} {tt:List UInt8} {E C:Int} {o:Rd (NT × Nat)} {E':Nat} (hE:E=(E':Int)) (hb:Below w.heap.size w w') (ho:o=if C=0 then .ok (.mk ⟨kd,st,at',0,[],[],T,[],[],tb,tt⟩ [],E') else .bad E' C) :
  CntPost w o (.returned (.tuple #[.agg #[.int .i64 kd,.int .i64 st,.int .i64 at',.int .i64 0,.string ⟨#[]⟩,.string ⟨#[]⟩,.string ⟨T.toArray⟩,.slice none 0 0,.slice none 0 0,.slice none 0 0,.bool tb,.string ⟨tt.toArray⟩],.int .i64 E,.int .i64 C])) w':=by
 refine ⟨_,fun _=>False,E,C,rfl,⟨_,_,_,_,_,_,_,_,_,_,_,_,_,_,_,_,_,_,rfl⟩,fun _ h=>h.elim,hb,?_⟩
 subst ho hE
 by_cases hC:C=0
 ·rw[if_pos hC]
  exact ⟨hC,rfl,IsN.shut (ComsR.nil _ _) (ComsR.nil _ _) (NodesR.nil _ _)⟩
 ·rw[if_neg hC]
  exact ⟨rfl,hC,rfl⟩
set_option maxRecDepth 100000 in
set_option maxHeartbeats 3200000 in
theorem trCnt_alias (s:ByteArray) (q:Nat) (n:Int) (deep:Nat) (o:Rd (NT × Nat)) (w:World) (hs:s.size≤10000) (hq:q<s.size) (hb:byt s q=42) (A:List UInt8) (E':Nat) (C:Int) (hZ:AliZ s (q:Int) A (E':Int) C) (ho:o=if C=0 then .ok (.mk ⟨2,0,(q:Int),0,[],[],A,[],[],false,[]⟩ [],E') else .bad E' C) :
  Calls Tryz.prog 38 #[.string s,.int .i64 (q:Int),.int .i64 n,.int .i64 (deep:Int)] w fun e w'=>CntPost w o e w':=by
 have hi:=run_byt s q hq _ rfl
 obtain ⟨W1,hW1⟩:∃ W1,W1=(w.alloc (.cells #[.int .i64 0,.int .i64 0,.int .i64 0,.int .i64 0,.string ⟨#[]⟩,.string ⟨#[]⟩,.string ⟨#[]⟩,.slice none 0 0,.slice none 0 0,.slice none 0 0,.bool false,.string ⟨#[]⟩] 27)).alloc (.cells #[.int .i64 1,.int .i64 1,.int .i64 (q:Int),.int .i64 0,.string ⟨#[]⟩,.string ⟨#[]⟩,.string ⟨#[]⟩,.slice none 0 0,.slice none 0 0,.slice none 0 0,.bool false,.string ⟨#[]⟩] 27):=⟨_,rfl⟩
 have u1:W1.heap.size=w.heap.size+2:=by rw[hW1];simp
 have b1:Below w.heap.size w W1:=by rw[hW1];exact ((Below.refl _ _).alloc (Nat.le_refl _) _).alloc (by simp) _
 have ra1:W1.heap[w.heap.size]?=some (.cells #[.int .i64 0,.int .i64 0,.int .i64 0,.int .i64 0,.string ⟨#[]⟩,.string ⟨#[]⟩,.string ⟨#[]⟩,.slice none 0 0,.slice none 0 0,.slice none 0 0,.bool false,.string ⟨#[]⟩] 27 (0,0)):=by rw[hW1];exact (heap_alloc_old _ _ (by simp)).trans (heap_alloc_new w _)
 have rn1:W1.heap[w.heap.size+1]?=some (.cells #[.int .i64 1,.int .i64 1,.int .i64 (q:Int),.int .i64 0,.string ⟨#[]⟩,.string ⟨#[]⟩,.string ⟨#[]⟩,.slice none 0 0,.slice none 0 0,.slice none 0 0,.bool false,.string ⟨#[]⟩] 27 (0,0)):=by
  rw[hW1]
  have:=heap_alloc_new (w.alloc (.cells #[.int .i64 0,.int .i64 0,.int .i64 0,.int .i64 0,.string ⟨#[]⟩,.string ⟨#[]⟩,.string ⟨#[]⟩,.slice none 0 0,.slice none 0 0,.slice none 0 0,.bool false,.string ⟨#[]⟩] 27)) (.cells #[.int .i64 1,.int .i64 1,.int .i64 (q:Int),.int .i64 0,.string ⟨#[]⟩,.string ⟨#[]⟩,.string ⟨#[]⟩,.slice none 0 0,.slice none 0 0,.slice none 0 0,.bool false,.string ⟨#[]⟩] 27)
  simpa using this
 have HW:=Lib.hid hW1
 clear hW1
 rw[hb] at hi
 have CP:∀ W,Below w.heap.size w W→Calls Tryz.prog 68 #[.string s,.int .i64 (q:Int)] W fun e w'=>e=.returned (.tuple #[.string ⟨A.toArray⟩,.int .i64 (E':Int),.int .i64 C])∧Below W.heap.size W w':=fun W hW=>propAlias_is A _ C s (q:Int) W (by omega) hZ
 generalize hX:(⟨A.toArray⟩:ByteArray)=X at CP
 have HX:=Lib.hid hX
 clear hX hZ

 have qn1:∀ j,W1.cell? ⟨w.heap.size+1,j,none⟩=(#[.int .i64 1,.int .i64 1,.int .i64 (q:Int),.int .i64 0,.string ⟨#[]⟩,.string ⟨#[]⟩,.string ⟨#[]⟩,.slice none 0 0,.slice none 0 0,.slice none 0 0,.bool false,.string ⟨#[]⟩]:Array Value)[j]?:=fun j=>cell_of_row W1 _ j _ _ _ rn1
 have fn1:∀ j,W1.frozen? ⟨w.heap.size+1,j,none⟩=false:=fun j=>frozen_of_row W1 _ j _ _ rn1
 go_enter Tryz.func38,Tryz.ntmps38
 go_upto_region 2 with fail
 rw[←HW.out]
 go_wp2_with fail
 obtain ⟨W2,hW2⟩:∃ W2,W2=((W1.setCell ⟨w.heap.size+1,0,none⟩ (.int .i64 2)).setCell ⟨w.heap.size+1,1,none⟩ (.int .i64 0)):=⟨_,rfl⟩
 have rn2:W2.heap[w.heap.size+1]?=some (.cells #[.int .i64 2,.int .i64 0,.int .i64 (q:Int),.int .i64 0,.string ⟨#[]⟩,.string ⟨#[]⟩,.string ⟨#[]⟩,.slice none 0 0,.slice none 0 0,.slice none 0 0,.bool false,.string ⟨#[]⟩] 27 (0,0)):=by rw[hW2];exact heap_setCell_same _ _ 1 _ _ _ (heap_setCell_same _ _ 0 _ _ _ (rn1))
 have b2:Below w.heap.size w W2:=by rw[hW2];exact ((b1.setCell (p:=⟨w.heap.size+1,0,none⟩) (by show w.heap.size≤w.heap.size+1;omega) _).setCell (p:=⟨w.heap.size+1,1,none⟩) (by show w.heap.size≤w.heap.size+1;omega) _)
 have ra2:W2.heap[w.heap.size]?=some (.cells #[.int .i64 0,.int .i64 0,.int .i64 0,.int .i64 0,.string ⟨#[]⟩,.string ⟨#[]⟩,.string ⟨#[]⟩,.slice none 0 0,.slice none 0 0,.slice none 0 0,.bool false,.string ⟨#[]⟩] 27 (0,0)):=by rw[hW2];exact (heap_setCell_other _ _ _ _ (show w.heap.size≠w.heap.size+1 by omega)).trans ((heap_setCell_other _ _ _ _ (show w.heap.size≠w.heap.size+1 by omega)).trans (ra1))
 have u2:W2.heap.size=w.heap.size+2:=by rw[hW2];simp[World.setCell,u1]
 rw[←hW2]
 clear hW2 qn1 fn1
 refine (CP W2 b2).mono ?_
 rintro e w3 ⟨rfl,b3⟩
 have sz3:=b3.size
 have rn3:=(b3.block (w.heap.size+1) (by omega)).trans rn2
 have ra3:=(b3.block w.heap.size (by omega)).trans ra2
 have b03:Below w.heap.size w w3:=b2.trans (b3.mono (by omega))
 have qn3:∀ j,w3.cell? ⟨w.heap.size+1,j,none⟩=(#[.int .i64 2,.int .i64 0,.int .i64 (q:Int),.int .i64 0,.string ⟨#[]⟩,.string ⟨#[]⟩,.string ⟨#[]⟩,.slice none 0 0,.slice none 0 0,.slice none 0 0,.bool false,.string ⟨#[]⟩]:Array Value)[j]?:=fun j=>cell_of_row w3 _ j _ _ _ rn3
 have fn3:∀ j,w3.frozen? ⟨w.heap.size+1,j,none⟩=false:=fun j=>frozen_of_row w3 _ j _ _ rn3
 have qa3:∀ j,w3.cell? ⟨w.heap.size,j,none⟩=(#[.int .i64 0,.int .i64 0,.int .i64 0,.int .i64 0,.string ⟨#[]⟩,.string ⟨#[]⟩,.string ⟨#[]⟩,.slice none 0 0,.slice none 0 0,.slice none 0 0,.bool false,.string ⟨#[]⟩]:Array Value)[j]?:=fun j=>cell_of_row w3 _ j _ _ _ ra3
 have fa3:∀ j,w3.frozen? ⟨w.heap.size,j,none⟩=false:=fun j=>frozen_of_row w3 _ j _ _ ra3
 have hne:w.heap.size≠w.heap.size+1:=by omega
 have HRN:=Lib.hid rn3
 have HRA:=Lib.hid ra3
 clear rn3 ra3 CP
 go_wp2
 obtain ⟨w4,hw4⟩:∃ w4,w4=w3.setCell ⟨w.heap.size+1,6,none⟩ (.string X):=⟨_,rfl⟩
 have ra4:w4.heap[w.heap.size]?=some (.cells #[.int .i64 0,.int .i64 0,.int .i64 0,.int .i64 0,.string ⟨#[]⟩,.string ⟨#[]⟩,.string ⟨#[]⟩,.slice none 0 0,.slice none 0 0,.slice none 0 0,.bool false,.string ⟨#[]⟩] 27 (0,0)):=by rw[hw4];exact (heap_setCell_other _ _ _ _ (by omega)).trans HRA.out
 have b4:Below w.heap.size w w4:=by rw[hw4];exact b03.setCell (p:=⟨w.heap.size+1,6,none⟩) (by show w.heap.size≤w.heap.size+1;omega) _
 rw[←hw4]
 clear hw4
 obtain ⟨w12,hw12⟩:∃ w12,w12=((((((((((((w4.setCell ⟨w.heap.size,0,none⟩ (.int .i64 2)).setCell ⟨w.heap.size,1,none⟩ (.int .i64 0)).setCell ⟨w.heap.size,2,none⟩ (.int .i64 (q:Int))).setCell ⟨w.heap.size,3,none⟩ (.int .i64 0)).setCell ⟨w.heap.size,4,none⟩ (.string ⟨#[]⟩)).setCell ⟨w.heap.size,5,none⟩ (.string ⟨#[]⟩)).setCell ⟨w.heap.size,6,none⟩ (.string X)).setCell ⟨w.heap.size,7,none⟩ (.slice none 0 0)).setCell ⟨w.heap.size,8,none⟩ (.slice none 0 0)).setCell ⟨w.heap.size,9,none⟩ (.slice none 0 0)).setCell ⟨w.heap.size,10,none⟩ (.bool false)).setCell ⟨w.heap.size,11,none⟩ (.string ⟨#[]⟩)):=⟨_,rfl⟩
 have r12:w12.heap[w.heap.size]?=some (.cells #[.int .i64 2,.int .i64 0,.int .i64 (q:Int),.int .i64 0,.string ⟨#[]⟩,.string ⟨#[]⟩,.string X,.slice none 0 0,.slice none 0 0,.slice none 0 0,.bool false,.string ⟨#[]⟩] 27 (0,0)):=by rw[hw12];exact row12_set w4 (hg:=ra4) ..
 have b12:Below w.heap.size w4 w12:=by rw[hw12];exact row12_below w4 _ _ (Nat.le_refl _) _ _ _ _ _ _ _ _ _ _ _ _
 have z12:w12.heap.size=w4.heap.size:=by rw[hw12,row12_size]
 have s12:∀ k,¬ k=w.heap.size→w12.heap[k]?=w4.heap[k]?:=fun k hk=>by rw[hw12];exact row12_other w4 _ k hk ..
 rw[←hw12]
 clear hw12
 have hcz:∀ j,w12.cell? ⟨w.heap.size,j,none⟩=(#[.int .i64 2,.int .i64 0,.int .i64 (q:Int),.int .i64 0,.string ⟨#[]⟩,.string ⟨#[]⟩,.string X,.slice none 0 0,.slice none 0 0,.slice none 0 0,.bool false,.string ⟨#[]⟩]:Array Value)[j]?:=fun j=>cell_of_row w12 _ j _ _ _ r12
 refine bodyPost_ret (v:=.tuple #[.agg #[.int .i64 2,.int .i64 0,.int .i64 (q:Int),.int .i64 0,.string ⟨#[]⟩,.string ⟨#[]⟩,.string X,.slice none 0 0,.slice none 0 0,.slice none 0 0,.bool false,.string ⟨#[]⟩],.int .i64 (E':Int),.int .i64 C]) (by simp[results,Tryz.results38,go_sem,hcz]) rfl ?_
 rw[←HX.out]
 exact leaf_post rfl (b4.trans b12) ho
set_option maxRecDepth 100000 in
set_option maxHeartbeats 3200000 in
theorem trCnt_plain (s:ByteArray) (q:Nat) (n:Int) (deep:Nat) (o:Rd (NT × Nat)) (w:World) (hs:s.size≤10000) (hq:q<s.size) (c:Nat) (hb:byt s q=c) (n91:((c:Int)==91)=false) (n123:((c:Int)==123)=false) (n124:((c:Int)==124)=false) (n62:((c:Int)==62)=false) (n42:((c:Int)==42)=false) (n39:((c:Int)==39)=false) (n34:((c:Int)==34)=false) (A:List UInt8) (E':Nat) (C:Int) (O:Bool) (hZ:PlaiZ s (q:Int) n false A (E':Int) O C) (ho:o=if C=0 then .ok (.mk ⟨1,1,(q:Int),0,[],[],A,[],[],false,[]⟩ [],E') else .bad E' C) :
  Calls Tryz.prog 38 #[.string s,.int .i64 (q:Int),.int .i64 n,.int .i64 (deep:Int)] w fun e w'=>CntPost w o e w':=by
 have hi:=run_byt s q hq _ rfl
 obtain ⟨W1,hW1⟩:∃ W1,W1=(w.alloc (.cells #[.int .i64 0,.int .i64 0,.int .i64 0,.int .i64 0,.string ⟨#[]⟩,.string ⟨#[]⟩,.string ⟨#[]⟩,.slice none 0 0,.slice none 0 0,.slice none 0 0,.bool false,.string ⟨#[]⟩] 27)).alloc (.cells #[.int .i64 1,.int .i64 1,.int .i64 (q:Int),.int .i64 0,.string ⟨#[]⟩,.string ⟨#[]⟩,.string ⟨#[]⟩,.slice none 0 0,.slice none 0 0,.slice none 0 0,.bool false,.string ⟨#[]⟩] 27):=⟨_,rfl⟩
 have u1:W1.heap.size=w.heap.size+2:=by rw[hW1];simp
 have b1:Below w.heap.size w W1:=by rw[hW1];exact ((Below.refl _ _).alloc (Nat.le_refl _) _).alloc (by simp) _
 have ra1:W1.heap[w.heap.size]?=some (.cells #[.int .i64 0,.int .i64 0,.int .i64 0,.int .i64 0,.string ⟨#[]⟩,.string ⟨#[]⟩,.string ⟨#[]⟩,.slice none 0 0,.slice none 0 0,.slice none 0 0,.bool false,.string ⟨#[]⟩] 27 (0,0)):=by rw[hW1];exact (heap_alloc_old _ _ (by simp)).trans (heap_alloc_new w _)
 have rn1:W1.heap[w.heap.size+1]?=some (.cells #[.int .i64 1,.int .i64 1,.int .i64 (q:Int),.int .i64 0,.string ⟨#[]⟩,.string ⟨#[]⟩,.string ⟨#[]⟩,.slice none 0 0,.slice none 0 0,.slice none 0 0,.bool false,.string ⟨#[]⟩] 27 (0,0)):=by
  rw[hW1]
  have:=heap_alloc_new (w.alloc (.cells #[.int .i64 0,.int .i64 0,.int .i64 0,.int .i64 0,.string ⟨#[]⟩,.string ⟨#[]⟩,.string ⟨#[]⟩,.slice none 0 0,.slice none 0 0,.slice none 0 0,.bool false,.string ⟨#[]⟩] 27)) (.cells #[.int .i64 1,.int .i64 1,.int .i64 (q:Int),.int .i64 0,.string ⟨#[]⟩,.string ⟨#[]⟩,.string ⟨#[]⟩,.slice none 0 0,.slice none 0 0,.slice none 0 0,.bool false,.string ⟨#[]⟩] 27)
  simpa using this
 have HW:=Lib.hid hW1
 clear hW1
 rw[hb] at hi
 have CP:∀ W,Below w.heap.size w W→Calls Tryz.prog 70 #[.string s,.int .i64 (q:Int),.int .i64 n,.bool false] W fun e w'=>e=.returned (.tuple #[.string ⟨A.toArray⟩,.int .i64 (E':Int),.bool O,.int .i64 C])∧Below W.heap.size W w':=fun W hW=>plaiRead_is A _ O C s (q:Int) n false W (by omega) hZ
 generalize hX:(⟨A.toArray⟩:ByteArray)=X at CP
 have HX:=Lib.hid hX
 clear hX hZ

 have qn1:∀ j,W1.cell? ⟨w.heap.size+1,j,none⟩=(#[.int .i64 1,.int .i64 1,.int .i64 (q:Int),.int .i64 0,.string ⟨#[]⟩,.string ⟨#[]⟩,.string ⟨#[]⟩,.slice none 0 0,.slice none 0 0,.slice none 0 0,.bool false,.string ⟨#[]⟩]:Array Value)[j]?:=fun j=>cell_of_row W1 _ j _ _ _ rn1
 have fn1:∀ j,W1.frozen? ⟨w.heap.size+1,j,none⟩=false:=fun j=>frozen_of_row W1 _ j _ _ rn1
 go_enter Tryz.func38,Tryz.ntmps38
 go_upto_region 2 with fail
 rw[←HW.out]
 go_wp2_with fail
 clear qn1 fn1
 refine (CP W1 b1).mono ?_
 rintro e w3 ⟨rfl,b3⟩
 have sz3:=b3.size
 have rn3:=(b3.block (w.heap.size+1) (by omega)).trans rn1
 have ra3:=(b3.block w.heap.size (by omega)).trans ra1
 have b03:Below w.heap.size w w3:=b1.trans (b3.mono (by omega))
 have qn3:∀ j,w3.cell? ⟨w.heap.size+1,j,none⟩=(#[.int .i64 1,.int .i64 1,.int .i64 (q:Int),.int .i64 0,.string ⟨#[]⟩,.string ⟨#[]⟩,.string ⟨#[]⟩,.slice none 0 0,.slice none 0 0,.slice none 0 0,.bool false,.string ⟨#[]⟩]:Array Value)[j]?:=fun j=>cell_of_row w3 _ j _ _ _ rn3
 have fn3:∀ j,w3.frozen? ⟨w.heap.size+1,j,none⟩=false:=fun j=>frozen_of_row w3 _ j _ _ rn3
 have qa3:∀ j,w3.cell? ⟨w.heap.size,j,none⟩=(#[.int .i64 0,.int .i64 0,.int .i64 0,.int .i64 0,.string ⟨#[]⟩,.string ⟨#[]⟩,.string ⟨#[]⟩,.slice none 0 0,.slice none 0 0,.slice none 0 0,.bool false,.string ⟨#[]⟩]:Array Value)[j]?:=fun j=>cell_of_row w3 _ j _ _ _ ra3
 have fa3:∀ j,w3.frozen? ⟨w.heap.size,j,none⟩=false:=fun j=>frozen_of_row w3 _ j _ _ ra3
 have hne:w.heap.size≠w.heap.size+1:=by omega
 have HRN:=Lib.hid rn3
 have HRA:=Lib.hid ra3
 clear rn3 ra3 CP
 go_wp2
 obtain ⟨w4,hw4⟩:∃ w4,w4=w3.setCell ⟨w.heap.size+1,6,none⟩ (.string X):=⟨_,rfl⟩
 have ra4:w4.heap[w.heap.size]?=some (.cells #[.int .i64 0,.int .i64 0,.int .i64 0,.int .i64 0,.string ⟨#[]⟩,.string ⟨#[]⟩,.string ⟨#[]⟩,.slice none 0 0,.slice none 0 0,.slice none 0 0,.bool false,.string ⟨#[]⟩] 27 (0,0)):=by rw[hw4];exact (heap_setCell_other _ _ _ _ (by omega)).trans HRA.out
 have b4:Below w.heap.size w w4:=by rw[hw4];exact b03.setCell (p:=⟨w.heap.size+1,6,none⟩) (by show w.heap.size≤w.heap.size+1;omega) _
 rw[←hw4]
 clear hw4
 obtain ⟨w12,hw12⟩:∃ w12,w12=((((((((((((w4.setCell ⟨w.heap.size,0,none⟩ (.int .i64 1)).setCell ⟨w.heap.size,1,none⟩ (.int .i64 1)).setCell ⟨w.heap.size,2,none⟩ (.int .i64 (q:Int))).setCell ⟨w.heap.size,3,none⟩ (.int .i64 0)).setCell ⟨w.heap.size,4,none⟩ (.string ⟨#[]⟩)).setCell ⟨w.heap.size,5,none⟩ (.string ⟨#[]⟩)).setCell ⟨w.heap.size,6,none⟩ (.string X)).setCell ⟨w.heap.size,7,none⟩ (.slice none 0 0)).setCell ⟨w.heap.size,8,none⟩ (.slice none 0 0)).setCell ⟨w.heap.size,9,none⟩ (.slice none 0 0)).setCell ⟨w.heap.size,10,none⟩ (.bool false)).setCell ⟨w.heap.size,11,none⟩ (.string ⟨#[]⟩)):=⟨_,rfl⟩
 have r12:w12.heap[w.heap.size]?=some (.cells #[.int .i64 1,.int .i64 1,.int .i64 (q:Int),.int .i64 0,.string ⟨#[]⟩,.string ⟨#[]⟩,.string X,.slice none 0 0,.slice none 0 0,.slice none 0 0,.bool false,.string ⟨#[]⟩] 27 (0,0)):=by rw[hw12];exact row12_set w4 (hg:=ra4) ..
 have b12:Below w.heap.size w4 w12:=by rw[hw12];exact row12_below w4 _ _ (Nat.le_refl _) _ _ _ _ _ _ _ _ _ _ _ _
 have z12:w12.heap.size=w4.heap.size:=by rw[hw12,row12_size]
 have s12:∀ k,¬ k=w.heap.size→w12.heap[k]?=w4.heap[k]?:=fun k hk=>by rw[hw12];exact row12_other w4 _ k hk ..
 rw[←hw12]
 clear hw12
 have hcz:∀ j,w12.cell? ⟨w.heap.size,j,none⟩=(#[.int .i64 1,.int .i64 1,.int .i64 (q:Int),.int .i64 0,.string ⟨#[]⟩,.string ⟨#[]⟩,.string X,.slice none 0 0,.slice none 0 0,.slice none 0 0,.bool false,.string ⟨#[]⟩]:Array Value)[j]?:=fun j=>cell_of_row w12 _ j _ _ _ r12
 refine bodyPost_ret (v:=.tuple #[.agg #[.int .i64 1,.int .i64 1,.int .i64 (q:Int),.int .i64 0,.string ⟨#[]⟩,.string ⟨#[]⟩,.string X,.slice none 0 0,.slice none 0 0,.slice none 0 0,.bool false,.string ⟨#[]⟩],.int .i64 (E':Int),.int .i64 C]) (by simp[results,Tryz.results38,go_sem,hcz]) rfl ?_
 rw[←HX.out]
 exact leaf_post rfl (b4.trans b12) ho
structure CntC (Ev:World→Prop) (P:ByteArray→Prop):Prop where
 below:∀ w w',Ev w→Below w.heap.size w w'→Ev w'
 cut:∀ s t,P s→P (cutB s t)
 smp:∀ s,Smp s→P s
 cnt:∀ (s:ByteArray) (q:Nat) (n:Int) (deep:Nat) (o:Rd (NT × Nat)) (w:World),s.size≤10000→P s→q<s.size→Ev w→leafR s n deep false q o →
  Calls Tryz.prog 38 #[.string s,.int .i64 (q:Int),.int .i64 n,.int .i64 (deep:Int)] w fun e w'=>CntPost w o e w'
theorem trCnt_smp (s:ByteArray) (q:Nat) (n:Int) (deep:Nat) (o:Rd (NT × Nat)) (w:World) (hs:s.size≤10000) (hP:Smp s) (hq:q<s.size) (ho:leafR s n deep false q o) :
  Calls Tryz.prog 38 #[.string s,.int .i64 (q:Int),.int .i64 n,.int .i64 (deep:Int)] w fun e w'=>CntPost w o e w':=by
 have is:∀ c,isB s q c=true→byt s q=c:=fun c h=>(isB_lt h).2
 have no:∀ c,¬ isB s q c=true→byt s q≠c:=fun c h e=>h (isB_in.2 ⟨hq,e⟩)
 unfold leafR at ho
 by_cases h42:isB s q 42=true
 ·rw[if_pos h42,if_neg (by decide)] at ho
  obtain ⟨A,E,C,hZ,ho⟩:=ho
  have hE:∃ E':Nat,E=(E':Int):=by
   rcases hZ.far_le with ⟨_,E2,rfl,_⟩|⟨_,h⟩
   ·exact ⟨E2,rfl⟩
   ·exact ⟨q,by omega⟩
  obtain ⟨E',rfl⟩:=hE
  rw[Int.toNat_natCast] at ho
  exact trCnt_alias s q n deep o w hs hq (is 42 h42) A E' C hZ ho
 rw[if_neg h42] at ho
 have hqt:¬ (isB s q 34=true∨isB s q 39=true):=fun h=>h.elim (fun h=>hP.byte hq 34 (by simp) (is _ h)) (fun h=>hP.byte hq 39 (by simp) (is _ h))
 rw[if_neg hqt] at ho
 have hbr:¬ (isB s q 91=true∨isB s q 123=true):=fun h=>h.elim (fun h=>hP.byte hq 91 (by simp) (is _ h)) (fun h=>hP.byte hq 123 (by simp) (is _ h))
 rw[if_neg hbr] at ho
 have hbl:¬ (isB s q 124=true∨isB s q 62=true):=fun h=>h.elim (fun h=>hP.byte hq 124 (by simp) (is _ h)) (fun h=>hP.byte hq 62 (by simp) (is _ h))
 rw[if_neg hbl] at ho
 have hne:∀ c:Nat,¬ isB s q c=true→(((byt s q:Nat):Int)==(c:Int))=false:=fun c h=>by rw[beq_eq_false_iff_ne];have:=no c h;omega
 have go:∀ (A:List UInt8) (E':Nat) (C:Int) (O:Bool),PlaiZ s (q:Int) n false A (E':Int) O C→(o=if C=0 then .ok (.mk ⟨1,1,(q:Int),0,[],[],A,[],[],false,[]⟩ [],E') else .bad E' C)→_:=fun A E' C O hZ ho=>
  trCnt_plain s q n deep o w hs hq (byt s q) rfl (hne 91 fun h=>hbr (.inl h)) (hne 123 fun h=>hbr (.inr h)) (hne 124 fun h=>hbl (.inl h)) (hne 62 fun h=>hbl (.inr h)) (hne 42 h42) (hne 39 fun h=>hqt (.inr h)) (hne 34 fun h=>hqt (.inl h)) A E' C O hZ ho
 by_cases hb:begB s (q:Int) false=true
 ·rw[if_pos hb] at ho
  obtain ⟨T,E,O,C,hZ,ho⟩:=ho
  obtain ⟨E',rfl,_⟩:=hZ.far_le hb
  rw[Int.toNat_natCast] at ho
  exact go T E' C O hZ ho
 ·rw[if_neg hb] at ho
  refine go [] q 5 false ?_ (by rw[if_neg (by decide)];exact ho)
  unfold PlaiZ
  rw[if_pos (by simpa using hb)]
  exact ⟨rfl,rfl,rfl,rfl⟩
theorem cntS:CntC (fun _=>True) Smp:=⟨fun _ _ _ _=>trivial,fun _ t h=>h.cut t,fun _ h=>h,fun s q n deep o w hs hP hq _ ho=>trCnt_smp s q n deep o w hs hP hq ho⟩
end Go.Proofs.YthcmkpiajkbpnaaGreatDoor
