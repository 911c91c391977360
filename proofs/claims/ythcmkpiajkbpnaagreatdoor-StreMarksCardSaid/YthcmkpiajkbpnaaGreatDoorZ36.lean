/- Parts of the proof, put together from smaller texts (blanks that Lean does not want are struck). Conditions: those that each theorem writes out. -/
import Derived.Deep.MidRow
import Derived.Deep.WholeRow
import Derived.Test.YthcmkpiajkbpnaaGreatDoorZ18
import Derived.Test.YthcmkpiajkbpnaaGreatDoorZ19
import Derived.Test.YthcmkpiajkbpnaaGreatDoorZ34
import Derived.Test.YthcmkpiajkbpnaaGreatDoorZ35
namespace Go.Proofs.YthcmkpiajkbpnaaGreatDoor
open Go.RowKit
theorem pass_call {s:ByteArray} {p q:Nat} {L:Coms} {S:Bool} (hs:s.size≤10000) (h:passR s p (.ok (L,S,q))):q≤s.size∧L.length≤s.size∧∀ w:World,Calls Tryz.prog 20 #[.string s,.int .i64 (p:Int)] w fun e w'=>∃ v,e=.returned (.tuple #[v,.bool S,.int .i64 (q:Int),.int .i64 0])∧OutC w.heap.size w' v L∧Below w.heap.size w w':=by
 obtain ⟨L',S',E',C',hZ,ho⟩:=h
 split at ho
 ·rename_i hC
  injection ho with ho
  injection ho with h1 ho
  injection ho with h2 h3
  subst hC h1 h2
  obtain ⟨E2,rfl,k1,k2,k3⟩:=hZ.cap
  rw[Int.toNat_natCast] at h3
  subst h3
  exact ⟨k1,k2,fun w=>noteSkip_is _ _ _ _ s _ w (by omega) hZ⟩
 ·cases ho
theorem pass_wrong {s:ByteArray} {p q:Nat} {c:Int} (hs:s.size≤10000) (h:passR s p (.bad q c)):∀ w:World,Calls Tryz.prog 20 #[.string s,.int .i64 (p:Int)] w fun e w'=>∃ v b L,e=.returned (.tuple #[v,.bool b,.int .i64 (q:Int),.int .i64 c])∧OutC w.heap.size w' v L∧Below w.heap.size w w':=by
 obtain ⟨L',S',E',C',hZ,ho⟩:=h
 split at ho
 ·cases ho
 ·injection ho with h1 h2
  obtain ⟨E2,rfl,k1,k2,k3⟩:=hZ.cap
  rw[Int.toNat_natCast] at h1
  subst h1 h2
  exact fun w=>(noteSkip_is _ _ _ _ s _ w (by omega) hZ).mono fun _ _ ⟨v,a,b,d⟩=>⟨v,_,_,a,b,d⟩
theorem DocsR.nil (R:Nat→Prop) (w:World):DocsR R w (.slice none 0 0) []:=⟨none,0,rfl,Nat.le_refl _,by decide,fun h=>by simp at h⟩
theorem DocsR.frame {R R':Nat→Prop} {w w':World} {v:Value} {D:List DT} (h:DocsR R w v D) (hR:∀ b,R b→R' b∧w'.heap[b]?=w.heap[b]?):DocsR R' w' v D:=by
 obtain ⟨ao,cap,rfl,h1,h2,h3⟩:=h
 refine ⟨ao,cap,rfl,h1,h2,fun hp=>?_⟩
 obtain ⟨b,o,e,hb,hc⟩:=h3 hp
 refine ⟨b,o,e,(hR b hb).1,fun j hj=>?_⟩
 obtain ⟨cs,k1,k2⟩:=hc j hj
 exact ⟨cs,fun i hi=>(cell_frame (hR b hb).2).trans (k1 i hi),k2.frame hR⟩
theorem tRead_len {l d cm:List UInt8} {has:Bool} {c:Int} (h:U.tRead l=(d,cm,has,c)):d.length≤l.length:=by
 unfold U.tRead at h
 split at h
 ·simp only[Prod.mk.injEq] at h
  obtain ⟨rfl,_⟩:=h
  have hcat:=congrArg List.length (U.note_cat l true)
  rw[List.length_append] at hcat
  have:=U.words_len (U.tNote true l).1 []
  simp only[List.length_nil] at this
  show (Lib.join (U.wordsC [] (U.tNote true l).1) [32]).length≤_
  omega
 ·simp only[Prod.mk.injEq] at h
  rw[←h.1];exact Nat.zero_le _
theorem bne2 {k:Nat} (h:k≠2):((k:Int) != 2)=true:=by rw[bne_iff_ne];omega
theorem bne3 {k:Nat} (h:k≠3):((k:Int) != 3)=true:=by rw[bne_iff_ne];omega
set_option maxRecDepth 100000 in
set_option maxHeartbeats 6400000 in
theorem stParse_is {Ev:World→Prop} {P:ByteArray→Prop} (K:CntC Ev P) (hTab:∀ w,Ev w→Lib.Utf8Tabs 1 2 w) (D:List DT) (T:Coms) (E C:Int) (s:ByteArray) (w:World) (hs:s.size≤10000) (hPs:P s) (hEv:Ev w) (hZ:StreZ s D T E C) :
  Calls Tryz.prog 13 #[.string s] w fun e w'=>∃ (kv tv:Value),e=.returned (.tuple #[.agg #[kv,tv],.int .i64 E,.int .i64 C])∧DocsR (Lo w'.heap.size) w' kv D∧ComsR (Lo w'.heap.size) w' tv T∧Below w.heap.size w w':=by
 obtain ⟨hk,hkl,hI⟩:=hZ
 obtain ⟨w1,hw1⟩:∃ w1,w1=w.alloc (.cells #[.slice none 0 0,.slice none 0 0] 42):=⟨_,rfl⟩
 obtain ⟨w2,hw2⟩:∃ w2,w2=w1.alloc (.cells (rdsC s 0 (.slice none 0 0) (.slice none 0 0) (.slice none 0 0)) 62):=⟨_,rfl⟩
 have z1:w1.heap.size=w.heap.size+1:=by rw[hw1];simp
 have b1:Below w.heap.size w w1:=by rw[hw1];exact (Below.refl _ _).alloc (Nat.le_refl _) _
 have r1:w1.heap[w.heap.size]?=some (.cells #[.slice none 0 0,.slice none 0 0] 42 (0,0)):=by rw[hw1];exact heap_alloc_new w _
 have b2:Below w1.heap.size w1 w2:=by rw[hw2];exact (Below.refl _ _).alloc (Nat.le_refl _) _
 have r2:w2.heap[w1.heap.size]?=some (.cells (rdsC s 0 (.slice none 0 0) (.slice none 0 0) (.slice none 0 0)) 62 (0,0)):=by rw[hw2];exact heap_alloc_new w1 _
 obtain ⟨g,hg⟩:∃ g,g=w1.heap.size:=⟨_,rfl⟩
 rw[←hg] at r2
 have M2:StM g s w1 w2 0 [] [] [] (.slice none 0 0) (.slice none 0 0) (.slice none 0 0) [] (fun _=>False):=
  ⟨r2,HasV.nil 2 _,HasV.nil 1 _,HasV.nil 16 _,rfl,fun k hk=>(by cases hk),fun k hk=>(by cases hk),fun k hk=>(by cases hk),fun k hk=>hk.elim,Nat.le_of_eq hg.symm,b2⟩
 have HM2:=Lib.hid M2
 have HR1:=Lib.hid r1
 have HB1:=Lib.hid b1
 have HI:=Lib.hid hI
 have hwg:w.heap.size<w1.heap.size:=by omega
 unfold rdsC at hw2
 go_enter Tryz.func13,Tryz.ntmps13
 have hg2:w.heap.size+1=g:=by rw[hg,z1]
 rw[hw1] at hw2
 have HW2:Hid (w2=_):=hw2
 have HG2:=Lib.hid hg2
 have HG:=Lib.hid hg
 clear hw1 hw2 z1 b1 r1 b2 r2 M2 hI hg2 hg
 go_upto_region 2 with fail
 go_wp2
 go_step3
 apply wp_seq
 apply wp_region_list
 refine wpList_plain rfl fun K1 hK1=>?_
 go_simp
 refine hK1 _ _ ?_
 refine wpList_plain rfl fun K1 hK1=>?_
 go_simp
 refine hK1 _ _ ?_
 refine wpList_plain rfl fun K1 hK1=>?_
 go_simp
 refine hK1 _ _ ?_
 refine wpList_plain rfl fun K1 hK1=>wp_store_new 62 _ _ rfl rfl (w.heap.size+1) (by simp) #[.string ⟨#[]⟩,.int .i64 0,.slice none 0 0,.slice none 0 0,.bool false,.int .i64 0,.int .i64 0,.int .i64 0,.int .i64 0,.string ⟨#[]⟩,.string ⟨#[]⟩,.string ⟨#[]⟩,.slice none 0 0,.slice none 0 0,.slice none 0 0,.bool false,.string ⟨#[]⟩,.slice none 0 0,.slice none 0 0] #[.string s,.int .i64 0,.slice none 0 0,.slice none 0 0,.bool false,.int .i64 0,.int .i64 0,.int .i64 0,.int .i64 0,.string ⟨#[]⟩,.string ⟨#[]⟩,.string ⟨#[]⟩,.slice none 0 0,.slice none 0 0,.slice none 0 0,.bool false,.string ⟨#[]⟩,.slice none 0 0,.slice none 0 0] rfl rfl (by kernel_rfl) rfl (by kernel_rfl) (hK1 _ _ ?_)
 refine wpList_nil ?_
 go_wp2
 go_step3
 go_wp2
 rw[←HW2.out,HG2.out]
 have hM0:=HM2.out
 go_loopg [9] hk (fun gk v9 wr=>∃ (p:Nat) (H:Coms) (ds:List (List UInt8)) (xs:List DT) (hv dv kv:Value) (cs:List Value) (R:Nat→Prop),StM g s w1 wr p H ds xs hv dv kv cs R∧Hid (SZ s D T E C gk p H ds xs)∧Hid (H.length+gk*20003≤20000*20003∧ds.length+gk≤20000∧xs.length+gk≤20000∧∀ x∈ds,x.length≤1000000))
 case atStart=>exact ⟨0,[],[],[],_,_,_,_,_,hM0,HI,⟨by show 0+hk*20003≤_;omega,by show 0+hk≤_;omega,by show 0+hk≤_;omega,fun x hx=>by cases hx⟩⟩
 case round=>
 obtain ⟨p,H,ds,xs,hv,dv,kv,cs,R,M,HS,HX⟩:=hrel
 obtain ⟨ha,ca,rfl⟩:=M.hh.form
 obtain ⟨da,dc,rfl⟩:=M.hd.form
 obtain ⟨ka,kc,rfl⟩:=M.hk.form
 have hcl:=fun j=>cell_of_row wr g j _ _ _ M.row
 have hfr:=fun j=>frozen_of_row wr g j _ _ M.row
 have rres:=(M.keep.block w.heap.size hwg).trans HR1.out
 have HM:=Lib.hid M
 have HRES:=Lib.hid rres
 unfold rdsC at hcl hfr
 clear M rres hM0 HI HM2
 cases HS.out with
 | skipX hp hc h1 h2 h3 h4=>
  clear HS
  subst h1 h2 h4
  have CN:=pass_wrong hs hp
  go_wp2_with fail
  refine (CN _).mono ?_
  rintro e w3 ⟨v3,b3,L3,rfl,hO3,hb3⟩
  obtain ⟨a3,c3,e3⟩:=(HasV.of_own hO3).form
  subst e3
  have hz3:w.heap.size<wr.heap.size:=Nat.lt_of_lt_of_le hwg HM.out.keep.size
  have rr:=(hb3.block w.heap.size hz3).trans HRES.out
  have qr:=fun j=>cell_of_row w3 _ j _ _ _ rr
  have fr:=fun j=>frozen_of_row w3 _ j _ _ rr
  have hcb:(C != 0)=true:=by simpa using hc
  have bT:Below w.heap.size w w3:=(HB1.out.trans (HM.out.keep.mono (Nat.le_of_lt hwg))).trans (hb3.mono (Nat.le_of_lt hz3))
  clear hcl hfr CN hO3 hb3
  go_wp2
  obtain ⟨wE,hwE⟩:∃ wE,wE=(w3.setCell ⟨w.heap.size,0,none⟩ (.slice none 0 0)).setCell ⟨w.heap.size,1,none⟩ (.slice none 0 0):=⟨_,rfl⟩
  have rE:wE.heap[w.heap.size]?=some (.cells #[.slice none 0 0,.slice none 0 0] 42 (0,0)):=by rw[hwE];exact heap_setCell_same _ _ 1 _ _ _ (heap_setCell_same w3 _ 0 _ _ _ rr)
  have bE:Below w.heap.size w wE:=by rw[hwE];exact (bT.setCell (p:=⟨w.heap.size,0,none⟩) (Nat.le_refl _) _).setCell (p:=⟨w.heap.size,1,none⟩) (Nat.le_refl _) _
  rw[←hwE]
  clear hwE
  have qE:=fun j=>cell_of_row wE _ j _ _ _ rE
  rw[Exit.noGoto_ret]
  refine bodyPost_ret (v:=.tuple #[.agg #[.slice none 0 0,.slice none 0 0],.int .i64 E,.int .i64 C]) (by simp[results,Tryz.results13,go_sem,qE,h3]) rfl ?_
  exact ⟨_,_,rfl,DocsR.nil _ _,ComsR.nil _ _,bE⟩
 | @lacks g0 _ _ _ _ L S q k hp hd hb hn2 hn3 h1 h2 h3 h4=>
  clear HS
  subst h1 h2
  obtain ⟨hq,hL,CN⟩:=pass_call hs hp
  go_wp2_with fail
  refine (CN _).mono ?_
  rintro e w3 ⟨v3,rfl,hO3,hb3⟩
  have M3:=HM.out.below hb3
  have hh3:=HasV.of_own hO3
  obtain ⟨a3,c3,e3⟩:=hh3.form
  subst e3
  have HC3:=Lib.hid hh3.toComs
  have rr:=(M3.keep.block w.heap.size hwg).trans HR1.out
  have bT:Below w.heap.size w w3:=HB1.out.trans (M3.keep.mono (Nat.le_of_lt hwg))
  have qr:=fun j=>cell_of_row w3 _ j _ _ _ rr
  have fr:=fun j=>frozen_of_row w3 _ j _ _ rr
  have hcl3:=fun j=>cell_of_row w3 g j _ _ _ M3.row
  have hfr3:=fun j=>frozen_of_row w3 g j _ _ M3.row
  unfold rdsC at hcl3 hfr3
  have HM3:=Lib.hid M3
  clear hcl hfr CN hO3 hh3 hb3 M3
  go_wp2_with fail
  refine (stBegins_is _ _ s _ hs hq hb).mono ?_
  rintro e w4 ⟨rfl,rfl⟩
  have hd0:(0:Int)<(ds.length:Int):=by
   have:=List.length_pos_iff.2 hd
   omega
  have hk2:=bne2 hn2
  have hk3:=bne3 hn3
  go_wp2
  obtain ⟨wE,hwE⟩:∃ wE,wE=(w4.setCell ⟨w.heap.size,0,none⟩ (.slice none 0 0)).setCell ⟨w.heap.size,1,none⟩ (.slice none 0 0):=⟨_,rfl⟩
  have rE:wE.heap[w.heap.size]?=some (.cells #[.slice none 0 0,.slice none 0 0] 42 (0,0)):=by rw[hwE];exact heap_setCell_same _ _ 1 _ _ _ (heap_setCell_same w4 _ 0 _ _ _ rr)
  have bE:Below w.heap.size w wE:=by rw[hwE];exact (bT.setCell (p:=⟨w.heap.size,0,none⟩) (Nat.le_refl _) _).setCell (p:=⟨w.heap.size,1,none⟩) (Nat.le_refl _) _
  rw[←hwE]
  clear hwE
  have qE:=fun j=>cell_of_row wE _ j _ _ _ rE
  rw[Exit.noGoto_ret]
  refine bodyPost_ret (v:=.tuple #[.agg #[.slice none 0 0,.slice none 0 0],.int .i64 E,.int .i64 C]) (by simp[results,Tryz.results13,go_sem,qE,h3,h4]) rfl ?_
  exact ⟨_,_,rfl,DocsR.nil _ _,ComsR.nil _ _,bE⟩
 | @over g0 _ _ _ L S q hp hb h1 h2 h3 h4=>
  clear HS
  subst h1 h2 h3 h4
  obtain ⟨hq,hL,CN⟩:=pass_call hs hp
  go_wp2_with fail
  refine (CN _).mono ?_
  rintro e w3 ⟨v3,rfl,hO3,hb3⟩
  have M3:=HM.out.below hb3
  have hh3:=HasV.of_own hO3
  obtain ⟨a3,c3,e3⟩:=hh3.form
  subst e3
  have HC3:=Lib.hid hh3.toComs
  have rr:=(M3.keep.block w.heap.size hwg).trans HR1.out
  have bT:Below w.heap.size w w3:=HB1.out.trans (M3.keep.mono (Nat.le_of_lt hwg))
  have qr:=fun j=>cell_of_row w3 _ j _ _ _ rr
  have fr:=fun j=>frozen_of_row w3 _ j _ _ rr
  have hcl3:=fun j=>cell_of_row w3 g j _ _ _ M3.row
  have hfr3:=fun j=>frozen_of_row w3 g j _ _ M3.row
  unfold rdsC at hcl3 hfr3
  have HM3:=Lib.hid M3
  clear hcl hfr CN hO3 hh3 hb3 M3
  go_wp2_with fail
  refine (stBegins_is _ _ s _ hs hq hb).mono ?_
  rintro e w4 ⟨rfl,rfl⟩
  have hX:=HX.out.1
  go_upto_region 11 with (at_builtin;refine appendH rfl _ _ rfl _ (.slice ha H.length ca) (.slice a3 L.length c3) H L rfl rfl HM3.out.hh HC3.out (by omega) ?_;intro v5 w5 o5 g5 n5;have M5:=HM3.out.more o5 g5 n5;have r5:=HM3.out.row1 g5 (Below.refl _ _);obtain ⟨a5,c5,e5⟩:=o5.form;obtain ⟨m5,hm5⟩:∃ m,m=(H++L).length:=⟨_,rfl⟩;rw[←hm5] at e5;subst e5;have HL5:Hid (m5=(H++L).length):=hm5;clear hm5;have q5:=fun j=>cell_of_row w5 g j _ _ _ r5;have f5:=fun j=>frozen_of_row w5 g j _ _ r5;unfold rdsC at q5 f5;have HM5:=Lib.hid M5;clear o5 g5 n5 r5 M5)
  obtain ⟨W7,hW7⟩:∃ W7,W7=(w5.setCell ⟨g,2,none⟩ (.slice a5 m5 c5)).setCell ⟨g,1,none⟩ (.int .i64 (q:Int)):=⟨_,rfl⟩
  have M7:=HM5.out.put q
  rw[←hW7] at M7 ⊢
  clear hW7 HM5 q5 f5 hcl3 hfr3 rr qr fr bT HM3 HC3
  have rr:=(M7.keep.block w.heap.size hwg).trans HR1.out
  have bT:Below w.heap.size w W7:=HB1.out.trans (M7.keep.mono (Nat.le_of_lt hwg))
  have qr:=fun j=>cell_of_row W7 _ j _ _ _ rr
  have fr:=fun j=>frozen_of_row W7 _ j _ _ rr
  have hcl7:=fun j=>cell_of_row W7 g j _ _ _ M7.row
  have hfr7:=fun j=>frozen_of_row W7 g j _ _ M7.row
  unfold rdsC at hcl7 hfr7
  have HM7:=Lib.hid M7
  clear M7
  go_wp2
  obtain ⟨wE,hwE⟩:∃ wE,wE=(W7.setCell ⟨w.heap.size,0,none⟩ (.slice ka D.length kc)).setCell ⟨w.heap.size,1,none⟩ (.slice a5 m5 c5):=⟨_,rfl⟩
  have rE:wE.heap[w.heap.size]?=some (.cells #[.slice ka D.length kc,.slice a5 m5 c5] 42 (0,0)):=by rw[hwE];exact heap_setCell_same _ _ 1 _ _ _ (heap_setCell_same W7 _ 0 _ _ _ rr)
  have bE:Below w.heap.size w wE:=by rw[hwE];exact (bT.setCell (p:=⟨w.heap.size,0,none⟩) (Nat.le_refl _) _).setCell (p:=⟨w.heap.size,1,none⟩) (Nat.le_refl _) _
  have oE:∀ k,w1.heap.size≤k→wE.heap[k]?=W7.heap[k]?:=fun k hk=>by rw[hwE];exact (heap_setCell_other _ _ _ _ (show k≠w.heap.size by omega)).trans (heap_setCell_other _ _ _ _ (show k≠w.heap.size by omega))
  have zE:wE.heap.size=W7.heap.size:=by rw[hwE];simp[World.setCell]
  rw[←hwE]
  clear hwE
  have qE:=fun j=>cell_of_row wE _ j _ _ _ rE
  have hDD:DocsR (Lo wE.heap.size) wE (.slice ka D.length kc) D:=(HM7.out.hk.toDocs (R':=fun k=>R k∨(Value.slice ka D.length kc).ownBlock=some k) HM7.out.docs (fun _ h=>.inl h) (fun _ h=>.inr h)).frame fun b hb=>by
   have h:w1.heap.size≤b∧b<W7.heap.size:=hb.elim (fun h=>⟨(HM7.out.new b h).1,(HM7.out.new b h).2.1⟩) (fun h=>⟨(HM7.out.own3 b h).1,HM7.out.hk.own b h⟩)
   exact ⟨by show b<wE.heap.size;omega,oE b h.1⟩
  have hTT:ComsR (Lo wE.heap.size) wE (.slice a5 m5 c5) (H++L):=HM7.out.hh.toComs.frame fun b hb=>⟨by have:=HM7.out.hh.own b hb;show b<wE.heap.size;omega,oE b (HM7.out.own1 b hb).1⟩
  rw[Exit.noGoto_ret]
  refine bodyPost_ret (v:=.tuple #[.agg #[.slice ka D.length kc,.slice a5 m5 c5],.int .i64 0,.int .i64 0]) (by simp[results,Tryz.results13,go_sem,qE]) rfl ?_
  exact ⟨_,_,rfl,hDD,hTT,bE⟩
 | @dots g0 _ _ _ L S q t L2 S2 C2 hp hb ht hN hS=>
  clear HS
  obtain ⟨_,_,_,hL2,_⟩:=hN.cap
  have hts:=ht.2.1
  rw[cutB_size hts] at hL2
  have HSS:=Lib.hid hS
  clear hS
  obtain ⟨hq,hL,CN⟩:=pass_call hs hp
  go_wp2_with fail
  refine (CN _).mono ?_
  rintro e w3 ⟨v3,rfl,hO3,hb3⟩
  have M3:=HM.out.below hb3
  have hh3:=HasV.of_own hO3
  obtain ⟨a3,c3,e3⟩:=hh3.form
  subst e3
  have HC3:=Lib.hid hh3.toComs
  have rr:=(M3.keep.block w.heap.size hwg).trans HR1.out
  have bT:Below w.heap.size w w3:=HB1.out.trans (M3.keep.mono (Nat.le_of_lt hwg))
  have qr:=fun j=>cell_of_row w3 _ j _ _ _ rr
  have fr:=fun j=>frozen_of_row w3 _ j _ _ rr
  have hcl3:=fun j=>cell_of_row w3 g j _ _ _ M3.row
  have hfr3:=fun j=>frozen_of_row w3 g j _ _ M3.row
  unfold rdsC at hcl3 hfr3
  have HM3:=Lib.hid M3
  clear hcl hfr CN hO3 hh3 hb3 M3
  go_wp2_with fail
  refine (stBegins_is _ _ s _ hs hq hb).mono ?_
  rintro e w4 ⟨rfl,rfl⟩
  have hX:=HX.out.1
  go_upto_region 11 with (at_builtin;refine appendH rfl _ _ rfl _ (.slice ha H.length ca) (.slice a3 L.length c3) H L rfl rfl HM3.out.hh HC3.out (by omega) ?_;intro v5 w5 o5 g5 n5;have M5:=HM3.out.more o5 g5 n5;have r5:=HM3.out.row1 g5 (Below.refl _ _);obtain ⟨a5,c5,e5⟩:=o5.form;obtain ⟨m5,hm5⟩:∃ m,m=(H++L).length:=⟨_,rfl⟩;rw[←hm5] at e5;subst e5;have HL5:Hid (m5=(H++L).length):=hm5;clear hm5;have q5:=fun j=>cell_of_row w5 g j _ _ _ r5;have f5:=fun j=>frozen_of_row w5 g j _ _ r5;unfold rdsC at q5 f5;have HM5:=Lib.hid M5;clear o5 g5 n5 r5 M5)
  obtain ⟨W7,hW7⟩:∃ W7,W7=(w5.setCell ⟨g,2,none⟩ (.slice a5 m5 c5)).setCell ⟨g,1,none⟩ (.int .i64 (q:Int)):=⟨_,rfl⟩
  have M7:=HM5.out.put q
  rw[←hW7] at M7 ⊢
  clear hW7 HM5 q5 f5 hcl3 hfr3 rr qr fr bT HM3 HC3
  have rr:=(M7.keep.block w.heap.size hwg).trans HR1.out
  have bT:Below w.heap.size w W7:=HB1.out.trans (M7.keep.mono (Nat.le_of_lt hwg))
  have qr:=fun j=>cell_of_row W7 _ j _ _ _ rr
  have fr:=fun j=>frozen_of_row W7 _ j _ _ rr
  have hcl7:=fun j=>cell_of_row W7 g j _ _ _ M7.row
  have hfr7:=fun j=>frozen_of_row W7 g j _ _ M7.row
  unfold rdsC at hcl7 hfr7
  have HM7:=Lib.hid M7
  clear M7
  have CD:=stDots_is (q2:=t) HM7.out hs hq ht hN (Nat.le_refl _) (by rw[List.length_append];omega)
  go_wp2_with fail
  refine CD.mono ?_
  rintro e w8 ⟨h1,_⟩
  obtain ⟨rfl,hv8,M8⟩:=h1 (by first|rfl|trivial)
  have hX2:=HX.out.2
  have HXN:Hid ((H++L++L2).length+g0*20003≤20000*20003∧([]:List (List UInt8)).length+g0≤20000∧xs.length+g0≤20000∧∀ x∈([]:List (List UInt8)),x.length≤1000000):=⟨by simp only[List.length_append];omega,by simp only[List.length_nil] at hX2 ⊢;omega,by omega,fun x hx=>(by cases hx)⟩
  clear CD h1 hX2 hcl7 hfr7 rr qr fr bT HM7 hX
  go_wp2
  go_roundg g0
  case rel=>exact ⟨t+1,_,_,_,_,_,_,_,_,M8,HSS,HXN⟩
  case measure=>omega
 | @dotsX g0 _ _ _ L S q t L2 S2 q2 C2 hp hb ht hN hlt h1 h2 h3 h4=>
  clear HS
  subst h1 h2
  obtain ⟨hq,hL,CN⟩:=pass_call hs hp
  go_wp2_with fail
  refine (CN _).mono ?_
  rintro e w3 ⟨v3,rfl,hO3,hb3⟩
  have M3:=HM.out.below hb3
  have hh3:=HasV.of_own hO3
  obtain ⟨a3,c3,e3⟩:=hh3.form
  subst e3
  have HC3:=Lib.hid hh3.toComs
  have rr:=(M3.keep.block w.heap.size hwg).trans HR1.out
  have bT:Below w.heap.size w w3:=HB1.out.trans (M3.keep.mono (Nat.le_of_lt hwg))
  have qr:=fun j=>cell_of_row w3 _ j _ _ _ rr
  have fr:=fun j=>frozen_of_row w3 _ j _ _ rr
  have hcl3:=fun j=>cell_of_row w3 g j _ _ _ M3.row
  have hfr3:=fun j=>frozen_of_row w3 g j _ _ M3.row
  unfold rdsC at hcl3 hfr3
  have HM3:=Lib.hid M3
  clear hcl hfr CN hO3 hh3 hb3 M3
  go_wp2_with fail
  refine (stBegins_is _ _ s _ hs hq hb).mono ?_
  rintro e w4 ⟨rfl,rfl⟩
  have hX:=HX.out.1
  go_upto_region 11 with (at_builtin;refine appendH rfl _ _ rfl _ (.slice ha H.length ca) (.slice a3 L.length c3) H L rfl rfl HM3.out.hh HC3.out (by omega) ?_;intro v5 w5 o5 g5 n5;have M5:=HM3.out.more o5 g5 n5;have r5:=HM3.out.row1 g5 (Below.refl _ _);obtain ⟨a5,c5,e5⟩:=o5.form;obtain ⟨m5,hm5⟩:∃ m,m=(H++L).length:=⟨_,rfl⟩;rw[←hm5] at e5;subst e5;have HL5:Hid (m5=(H++L).length):=hm5;clear hm5;have q5:=fun j=>cell_of_row w5 g j _ _ _ r5;have f5:=fun j=>frozen_of_row w5 g j _ _ r5;unfold rdsC at q5 f5;have HM5:=Lib.hid M5;clear o5 g5 n5 r5 M5)
  obtain ⟨W7,hW7⟩:∃ W7,W7=(w5.setCell ⟨g,2,none⟩ (.slice a5 m5 c5)).setCell ⟨g,1,none⟩ (.int .i64 (q:Int)):=⟨_,rfl⟩
  have M7:=HM5.out.put q
  rw[←hW7] at M7 ⊢
  clear hW7 HM5 q5 f5 hcl3 hfr3 rr qr fr bT HM3 HC3
  have rr:=(M7.keep.block w.heap.size hwg).trans HR1.out
  have bT:Below w.heap.size w W7:=HB1.out.trans (M7.keep.mono (Nat.le_of_lt hwg))
  have qr:=fun j=>cell_of_row W7 _ j _ _ _ rr
  have fr:=fun j=>frozen_of_row W7 _ j _ _ rr
  have hcl7:=fun j=>cell_of_row W7 g j _ _ _ M7.row
  have hfr7:=fun j=>frozen_of_row W7 g j _ _ M7.row
  unfold rdsC at hcl7 hfr7
  have HM7:=Lib.hid M7
  clear M7
  have CD:=stDots_is (q2:=q2) HM7.out hs hq ht hN (Nat.le_of_lt hlt) (by rw[List.length_append];omega)
  go_wp2_with fail
  refine CD.mono ?_
  rintro e w8 ⟨_,h1⟩
  obtain ⟨rfl,hst,hb8⟩:=h1 (by first|exact hlt|trivial)
  clear CD h1 hcl7 hfr7 rr qr fr bT HM7 hX
  have rr:=(hb8.block w.heap.size hwg).trans HR1.out
  have bT:Below w.heap.size w w8:=HB1.out.trans (hb8.mono (Nat.le_of_lt hwg))
  have qr:=fun j=>cell_of_row w8 _ j _ _ _ rr
  have fr:=fun j=>frozen_of_row w8 _ j _ _ rr
  clear hb8
  have hgb:¬ g=w.heap.size:=by have:=HG.out;omega
  have hgb2:¬ w.heap.size=g:=fun e=>hgb e.symm
  go_wp2_with fail
  go_region
  all_goals
   obtain ⟨wE,hwE⟩:∃ wE,wE=((w8.setCell ⟨w.heap.size,0,none⟩ (.slice none 0 0)).setCell ⟨w.heap.size,1,none⟩ (.slice none 0 0)).drew:=⟨_,rfl⟩
   have rE:wE.heap[w.heap.size]?=some (.cells #[.slice none 0 0,.slice none 0 0] 42 (0,0)):=by rw[hwE];exact heap_setCell_same _ _ 1 _ _ _ (heap_setCell_same w8 _ 0 _ _ _ rr)
   have bE:Below w.heap.size w wE:=by rw[hwE];exact ((bT.setCell (p:=⟨w.heap.size,0,none⟩) (Nat.le_refl _) _).setCell (p:=⟨w.heap.size,1,none⟩) (Nat.le_refl _) _).drew
   rw[←hwE]
   clear hwE
   have qE:=fun j=>cell_of_row wE _ j _ _ _ rE
   go_wp2
   rw[Exit.noGoto_ret]
   refine bodyPost_ret (v:=.tuple #[.agg #[.slice none 0 0,.slice none 0 0],.int .i64 E,.int .i64 C]) (by simp[results,Tryz.results13,go_sem,qE,h3,h4]) rfl ?_
   exact ⟨_,_,rfl,DocsR.nil _ _,ComsR.nil _ _,bE⟩
 | @dirX g0 _ _ _ _ L S q t d cm has c hp hb ht hr hc h1 h2 h3 h4=>
  clear HS
  subst h1 h2
  have hts:=ht.2.1
  have hqt:=ht.1
  have hdl:d.length≤1000000:=by
   have h:=tRead_len hr
   have h2:(pieceL s q t).length≤s.size:=by unfold pieceL;rw[List.length_take,List.length_drop,←Lib.size_eq];omega
   omega
  obtain ⟨hq,hL,CN⟩:=pass_call hs hp
  go_wp2_with fail
  refine (CN _).mono ?_
  rintro e w3 ⟨v3,rfl,hO3,hb3⟩
  have M3:=HM.out.below hb3
  have hh3:=HasV.of_own hO3
  obtain ⟨a3,c3,e3⟩:=hh3.form
  subst e3
  have HC3:=Lib.hid hh3.toComs
  have rr:=(M3.keep.block w.heap.size hwg).trans HR1.out
  have bT:Below w.heap.size w w3:=HB1.out.trans (M3.keep.mono (Nat.le_of_lt hwg))
  have qr:=fun j=>cell_of_row w3 _ j _ _ _ rr
  have fr:=fun j=>frozen_of_row w3 _ j _ _ rr
  have hcl3:=fun j=>cell_of_row w3 g j _ _ _ M3.row
  have hfr3:=fun j=>frozen_of_row w3 g j _ _ M3.row
  unfold rdsC at hcl3 hfr3
  have HM3:=Lib.hid M3
  clear hcl hfr CN hO3 hh3 hb3 M3
  go_wp2_with fail
  refine (stBegins_is _ _ s _ hs hq hb).mono ?_
  rintro e w4 ⟨rfl,rfl⟩
  go_upto_region 6 with fail
  go_cut [10,42] from 13 to 80 (fun v c wx=>v=.int .i64 2∧c=.bool false∧wx=w4)
  case first=>
   go_wp2_with fail
   all_goals
    go_meet
    exact ⟨rfl,rfl,rfl⟩
  case rest=>
  obtain ⟨rfl,rfl,hwc⟩:=hcut
  obtain rfl:w4=_:=hwc.symm
  have hX:=HX.out.1
  go_upto_region 11 with (at_builtin;refine appendH rfl _ _ rfl _ (.slice ha H.length ca) (.slice a3 L.length c3) H L rfl rfl HM3.out.hh HC3.out (by omega) ?_;intro v5 w5 o5 g5 n5;have M5:=HM3.out.more o5 g5 n5;have r5:=HM3.out.row1 g5 (Below.refl _ _);obtain ⟨a5,c5,e5⟩:=o5.form;obtain ⟨m5,hm5⟩:∃ m,m=(H++L).length:=⟨_,rfl⟩;rw[←hm5] at e5;subst e5;have HL5:Hid (m5=(H++L).length):=hm5;clear hm5;have q5:=fun j=>cell_of_row w5 g j _ _ _ r5;have f5:=fun j=>frozen_of_row w5 g j _ _ r5;unfold rdsC at q5 f5;have HM5:=Lib.hid M5;clear o5 g5 n5 r5 M5)
  obtain ⟨W7,hW7⟩:∃ W7,W7=(w5.setCell ⟨g,2,none⟩ (.slice a5 m5 c5)).setCell ⟨g,1,none⟩ (.int .i64 (q:Int)):=⟨_,rfl⟩
  have M7:=HM5.out.put q
  rw[←hW7] at M7 ⊢
  clear hW7 HM5 q5 f5 hcl3 hfr3 rr qr fr bT HM3 HC3
  have rr:=(M7.keep.block w.heap.size hwg).trans HR1.out
  have bT:Below w.heap.size w W7:=HB1.out.trans (M7.keep.mono (Nat.le_of_lt hwg))
  have qr:=fun j=>cell_of_row W7 _ j _ _ _ rr
  have fr:=fun j=>frozen_of_row W7 _ j _ _ rr
  have hcl7:=fun j=>cell_of_row W7 g j _ _ _ M7.row
  have hfr7:=fun j=>frozen_of_row W7 g j _ _ M7.row
  unfold rdsC at hcl7 hfr7
  have HM7:=Lib.hid M7
  clear M7
  have CD:=stDire_is HM7.out hs hq ht hr (fun W hW=>hTab W (K.below _ _ hEv (bT.trans (hW.mono bT.size)))) (by rw[List.length_append];omega) (by have:=HX.out.2.1;omega) HX.out.2.2.2 hdl _ rfl
  go_wp2_with fail
  refine CD.mono ?_
  rintro e w8 ⟨h1,_,_⟩
  obtain ⟨rfl,hst,hb8⟩:=h1 hc
  have hcb:(c != 0)=true:=by simpa using hc
  clear CD h1 hcl7 hfr7 rr qr fr bT HM7 hX
  have rr:=(hb8.block w.heap.size hwg).trans HR1.out
  have bT:Below w.heap.size w w8:=HB1.out.trans (hb8.mono (Nat.le_of_lt hwg))
  have qr:=fun j=>cell_of_row w8 _ j _ _ _ rr
  have fr:=fun j=>frozen_of_row w8 _ j _ _ rr
  clear hb8
  have hgb:¬ g=w.heap.size:=by have:=HG.out;omega
  have hgb2:¬ w.heap.size=g:=fun e=>hgb e.symm
  go_wp2_with fail
  go_region
  all_goals
   obtain ⟨wE,hwE⟩:∃ wE,wE=((w8.setCell ⟨w.heap.size,0,none⟩ (.slice none 0 0)).setCell ⟨w.heap.size,1,none⟩ (.slice none 0 0)).drew:=⟨_,rfl⟩
   have rE:wE.heap[w.heap.size]?=some (.cells #[.slice none 0 0,.slice none 0 0] 42 (0,0)):=by rw[hwE];exact heap_setCell_same _ _ 1 _ _ _ (heap_setCell_same w8 _ 0 _ _ _ rr)
   have bE:Below w.heap.size w wE:=by rw[hwE];exact ((bT.setCell (p:=⟨w.heap.size,0,none⟩) (Nat.le_refl _) _).setCell (p:=⟨w.heap.size,1,none⟩) (Nat.le_refl _) _).drew
   rw[←hwE]
   clear hwE
   have qE:=fun j=>cell_of_row wE _ j _ _ _ rE
   go_wp2
   rw[Exit.noGoto_ret]
   refine bodyPost_ret (v:=.tuple #[.agg #[.slice none 0 0,.slice none 0 0],.int .i64 E,.int .i64 C]) (by simp[results,Tryz.results13,go_sem,qE,h3,h4]) rfl ?_
   exact ⟨_,_,rfl,DocsR.nil _ _,ComsR.nil _ _,bE⟩
 | @dirTwo g0 _ _ _ _ L S q t d cm has hp hb ht hr h2t h1 h2 h3 h4=>
  clear HS
  subst h1 h2
  have hts:=ht.2.1
  have hqt:=ht.1
  have hdl:d.length≤1000000:=by
   have h:=tRead_len hr
   have h2:(pieceL s q t).length≤s.size:=by unfold pieceL;rw[List.length_take,List.length_drop,←Lib.size_eq];omega
   omega
  obtain ⟨hq,hL,CN⟩:=pass_call hs hp
  go_wp2_with fail
  refine (CN _).mono ?_
  rintro e w3 ⟨v3,rfl,hO3,hb3⟩
  have M3:=HM.out.below hb3
  have hh3:=HasV.of_own hO3
  obtain ⟨a3,c3,e3⟩:=hh3.form
  subst e3
  have HC3:=Lib.hid hh3.toComs
  have rr:=(M3.keep.block w.heap.size hwg).trans HR1.out
  have bT:Below w.heap.size w w3:=HB1.out.trans (M3.keep.mono (Nat.le_of_lt hwg))
  have qr:=fun j=>cell_of_row w3 _ j _ _ _ rr
  have fr:=fun j=>frozen_of_row w3 _ j _ _ rr
  have hcl3:=fun j=>cell_of_row w3 g j _ _ _ M3.row
  have hfr3:=fun j=>frozen_of_row w3 g j _ _ M3.row
  unfold rdsC at hcl3 hfr3
  have HM3:=Lib.hid M3
  clear hcl hfr CN hO3 hh3 hb3 M3
  go_wp2_with fail
  refine (stBegins_is _ _ s _ hs hq hb).mono ?_
  rintro e w4 ⟨rfl,rfl⟩
  go_upto_region 6 with fail
  go_cut [10,42] from 13 to 80 (fun v c wx=>v=.int .i64 2∧c=.bool false∧wx=w4)
  case first=>
   go_wp2_with fail
   all_goals
    go_meet
    exact ⟨rfl,rfl,rfl⟩
  case rest=>
  obtain ⟨rfl,rfl,hwc⟩:=hcut
  obtain rfl:w4=_:=hwc.symm
  have hX:=HX.out.1
  go_upto_region 11 with (at_builtin;refine appendH rfl _ _ rfl _ (.slice ha H.length ca) (.slice a3 L.length c3) H L rfl rfl HM3.out.hh HC3.out (by omega) ?_;intro v5 w5 o5 g5 n5;have M5:=HM3.out.more o5 g5 n5;have r5:=HM3.out.row1 g5 (Below.refl _ _);obtain ⟨a5,c5,e5⟩:=o5.form;obtain ⟨m5,hm5⟩:∃ m,m=(H++L).length:=⟨_,rfl⟩;rw[←hm5] at e5;subst e5;have HL5:Hid (m5=(H++L).length):=hm5;clear hm5;have q5:=fun j=>cell_of_row w5 g j _ _ _ r5;have f5:=fun j=>frozen_of_row w5 g j _ _ r5;unfold rdsC at q5 f5;have HM5:=Lib.hid M5;clear o5 g5 n5 r5 M5)
  obtain ⟨W7,hW7⟩:∃ W7,W7=(w5.setCell ⟨g,2,none⟩ (.slice a5 m5 c5)).setCell ⟨g,1,none⟩ (.int .i64 (q:Int)):=⟨_,rfl⟩
  have M7:=HM5.out.put q
  rw[←hW7] at M7 ⊢
  clear hW7 HM5 q5 f5 hcl3 hfr3 rr qr fr bT HM3 HC3
  have rr:=(M7.keep.block w.heap.size hwg).trans HR1.out
  have bT:Below w.heap.size w W7:=HB1.out.trans (M7.keep.mono (Nat.le_of_lt hwg))
  have qr:=fun j=>cell_of_row W7 _ j _ _ _ rr
  have fr:=fun j=>frozen_of_row W7 _ j _ _ rr
  have hcl7:=fun j=>cell_of_row W7 g j _ _ _ M7.row
  have hfr7:=fun j=>frozen_of_row W7 g j _ _ M7.row
  unfold rdsC at hcl7 hfr7
  have HM7:=Lib.hid M7
  clear M7
  have CD:=stDire_is HM7.out hs hq ht hr (fun W hW=>hTab W (K.below _ _ hEv (bT.trans (hW.mono bT.size)))) (by rw[List.length_append];omega) (by have:=HX.out.2.1;omega) HX.out.2.2.2 hdl true h2t
  go_wp2_with fail
  refine CD.mono ?_
  rintro e w8 ⟨_,h1,_⟩
  obtain ⟨rfl,hst,hb8⟩:=h1 (by first|rfl|trivial) (by first|rfl|trivial)
  clear CD h1 hcl7 hfr7 rr qr fr bT HM7 hX
  have rr:=(hb8.block w.heap.size hwg).trans HR1.out
  have bT:Below w.heap.size w w8:=HB1.out.trans (hb8.mono (Nat.le_of_lt hwg))
  have qr:=fun j=>cell_of_row w8 _ j _ _ _ rr
  have fr:=fun j=>frozen_of_row w8 _ j _ _ rr
  clear hb8
  have hgb:¬ g=w.heap.size:=by have:=HG.out;omega
  have hgb2:¬ w.heap.size=g:=fun e=>hgb e.symm
  go_wp2_with fail
  go_region
  all_goals
   obtain ⟨wE,hwE⟩:∃ wE,wE=((w8.setCell ⟨w.heap.size,0,none⟩ (.slice none 0 0)).setCell ⟨w.heap.size,1,none⟩ (.slice none 0 0)).drew:=⟨_,rfl⟩
   have rE:wE.heap[w.heap.size]?=some (.cells #[.slice none 0 0,.slice none 0 0] 42 (0,0)):=by rw[hwE];exact heap_setCell_same _ _ 1 _ _ _ (heap_setCell_same w8 _ 0 _ _ _ rr)
   have bE:Below w.heap.size w wE:=by rw[hwE];exact ((bT.setCell (p:=⟨w.heap.size,0,none⟩) (Nat.le_refl _) _).setCell (p:=⟨w.heap.size,1,none⟩) (Nat.le_refl _) _).drew
   rw[←hwE]
   clear hwE
   have qE:=fun j=>cell_of_row wE _ j _ _ _ rE
   go_wp2
   rw[Exit.noGoto_ret]
   refine bodyPost_ret (v:=.tuple #[.agg #[.slice none 0 0,.slice none 0 0],.int .i64 E,.int .i64 C]) (by simp[results,Tryz.results13,go_sem,qE,h3,h4]) rfl ?_
   exact ⟨_,_,rfl,DocsR.nil _ _,ComsR.nil _ _,bE⟩
 | @dir g0 _ _ _ _ L S q t d cm has hp hb ht hr h2t hS=>
  clear HS
  have HSS:=Lib.hid hS
  clear hS
  have hts:=ht.2.1
  have hqt:=ht.1
  have hdl:d.length≤1000000:=by
   have h:=tRead_len hr
   have h2:(pieceL s q t).length≤s.size:=by unfold pieceL;rw[List.length_take,List.length_drop,←Lib.size_eq];omega
   omega
  obtain ⟨hq,hL,CN⟩:=pass_call hs hp
  go_wp2_with fail
  refine (CN _).mono ?_
  rintro e w3 ⟨v3,rfl,hO3,hb3⟩
  have M3:=HM.out.below hb3
  have hh3:=HasV.of_own hO3
  obtain ⟨a3,c3,e3⟩:=hh3.form
  subst e3
  have HC3:=Lib.hid hh3.toComs
  have rr:=(M3.keep.block w.heap.size hwg).trans HR1.out
  have bT:Below w.heap.size w w3:=HB1.out.trans (M3.keep.mono (Nat.le_of_lt hwg))
  have qr:=fun j=>cell_of_row w3 _ j _ _ _ rr
  have fr:=fun j=>frozen_of_row w3 _ j _ _ rr
  have hcl3:=fun j=>cell_of_row w3 g j _ _ _ M3.row
  have hfr3:=fun j=>frozen_of_row w3 g j _ _ M3.row
  unfold rdsC at hcl3 hfr3
  have HM3:=Lib.hid M3
  clear hcl hfr CN hO3 hh3 hb3 M3
  go_wp2_with fail
  refine (stBegins_is _ _ s _ hs hq hb).mono ?_
  rintro e w4 ⟨rfl,rfl⟩
  go_upto_region 6 with fail
  go_cut [10,42] from 13 to 80 (fun v c wx=>v=.int .i64 2∧c=.bool false∧wx=w4)
  case first=>
   go_wp2_with fail
   all_goals
    go_meet
    exact ⟨rfl,rfl,rfl⟩
  case rest=>
  obtain ⟨rfl,rfl,hwc⟩:=hcut
  obtain rfl:w4=_:=hwc.symm
  have hX:=HX.out.1
  go_upto_region 11 with (at_builtin;refine appendH rfl _ _ rfl _ (.slice ha H.length ca) (.slice a3 L.length c3) H L rfl rfl HM3.out.hh HC3.out (by omega) ?_;intro v5 w5 o5 g5 n5;have M5:=HM3.out.more o5 g5 n5;have r5:=HM3.out.row1 g5 (Below.refl _ _);obtain ⟨a5,c5,e5⟩:=o5.form;obtain ⟨m5,hm5⟩:∃ m,m=(H++L).length:=⟨_,rfl⟩;rw[←hm5] at e5;subst e5;have HL5:Hid (m5=(H++L).length):=hm5;clear hm5;have q5:=fun j=>cell_of_row w5 g j _ _ _ r5;have f5:=fun j=>frozen_of_row w5 g j _ _ r5;unfold rdsC at q5 f5;have HM5:=Lib.hid M5;clear o5 g5 n5 r5 M5)
  obtain ⟨W7,hW7⟩:∃ W7,W7=(w5.setCell ⟨g,2,none⟩ (.slice a5 m5 c5)).setCell ⟨g,1,none⟩ (.int .i64 (q:Int)):=⟨_,rfl⟩
  have M7:=HM5.out.put q
  rw[←hW7] at M7 ⊢
  clear hW7 HM5 q5 f5 hcl3 hfr3 rr qr fr bT HM3 HC3
  have rr:=(M7.keep.block w.heap.size hwg).trans HR1.out
  have bT:Below w.heap.size w W7:=HB1.out.trans (M7.keep.mono (Nat.le_of_lt hwg))
  have qr:=fun j=>cell_of_row W7 _ j _ _ _ rr
  have fr:=fun j=>frozen_of_row W7 _ j _ _ rr
  have hcl7:=fun j=>cell_of_row W7 g j _ _ _ M7.row
  have hfr7:=fun j=>frozen_of_row W7 g j _ _ M7.row
  unfold rdsC at hcl7 hfr7
  have HM7:=Lib.hid M7
  clear M7
  have CD:=stDire_is HM7.out hs hq ht hr (fun W hW=>hTab W (K.below _ _ hEv (bT.trans (hW.mono bT.size)))) (by rw[List.length_append];omega) (by have:=HX.out.2.1;omega) HX.out.2.2.2 hdl false h2t
  go_wp2_with fail
  refine CD.mono ?_
  rintro e w8 ⟨_,_,h1⟩
  obtain ⟨rfl,hv8,dv8,M8⟩:=h1 (by first|rfl|trivial) (by first|rfl|trivial)
  have hX2:=HX.out.2
  have HXN:Hid ((H++L++if has=true then [(cm,0)] else []).length+g0*20003≤20000*20003∧(ds++[d]).length+g0≤20000∧xs.length+g0≤20000∧∀ x∈ds++[d],x.length≤1000000):=⟨by
   have hle:(if has=true then [(cm,0)] else []:Coms).length≤1:=by split <;> simp
   rw[List.length_append,List.length_append];omega,by rw[List.length_append];show ds.length+1+g0≤_;omega,by omega,fun x hx=>by
    rcases List.mem_append.1 hx with h|h
    ·exact hX2.2.2 x h
    ·rw[List.mem_singleton.1 h];exact hdl⟩
  clear CD h1 hX2 hcl7 hfr7 rr qr fr bT HM7 hX
  go_wp2
  go_roundg g0
  case rel=>exact ⟨t+1,_,_,_,_,_,_,_,_,M8,HSS,HXN⟩
  case measure=>omega
 | @mark g0 _ _ _ _ L S q x F e0 hp hb hZ hS=>
  clear HS
  have HSS:=Lib.hid hS
  clear hS
  obtain ⟨hq,hL,CN⟩:=pass_call hs hp
  go_wp2_with fail
  refine (CN _).mono ?_
  rintro e w3 ⟨v3,rfl,hO3,hb3⟩
  have M3:=HM.out.below hb3
  have hh3:=HasV.of_own hO3
  obtain ⟨a3,c3,e3⟩:=hh3.form
  subst e3
  have HC3:=Lib.hid hh3.toComs
  have rr:=(M3.keep.block w.heap.size hwg).trans HR1.out
  have bT:Below w.heap.size w w3:=HB1.out.trans (M3.keep.mono (Nat.le_of_lt hwg))
  have qr:=fun j=>cell_of_row w3 _ j _ _ _ rr
  have fr:=fun j=>frozen_of_row w3 _ j _ _ rr
  have hcl3:=fun j=>cell_of_row w3 g j _ _ _ M3.row
  have hfr3:=fun j=>frozen_of_row w3 g j _ _ M3.row
  unfold rdsC at hcl3 hfr3
  have HM3:=Lib.hid M3
  clear hcl hfr CN hO3 hh3 hb3 M3
  go_wp2_with fail
  refine (stBegins_is _ _ s _ hs hq hb).mono ?_
  rintro e w4 ⟨rfl,rfl⟩
  go_upto_region 6 with fail
  go_cut [10,42] from 13 to 80 (fun v c wx=>v=.int .i64 3∧c=.bool false∧wx=w4)
  case first=>
   go_wp2_with fail
   all_goals
    go_meet
    exact ⟨rfl,rfl,rfl⟩
  case rest=>
  obtain ⟨rfl,rfl,hwc⟩:=hcut
  obtain rfl:w4=_:=hwc.symm
  have hX:=HX.out.1
  go_upto_region 11 with (at_builtin;refine appendH rfl _ _ rfl _ (.slice ha H.length ca) (.slice a3 L.length c3) H L rfl rfl HM3.out.hh HC3.out (by omega) ?_;intro v5 w5 o5 g5 n5;have M5:=HM3.out.more o5 g5 n5;have r5:=HM3.out.row1 g5 (Below.refl _ _);obtain ⟨a5,c5,e5⟩:=o5.form;obtain ⟨m5,hm5⟩:∃ m,m=(H++L).length:=⟨_,rfl⟩;rw[←hm5] at e5;subst e5;have HL5:Hid (m5=(H++L).length):=hm5;clear hm5;have q5:=fun j=>cell_of_row w5 g j _ _ _ r5;have f5:=fun j=>frozen_of_row w5 g j _ _ r5;unfold rdsC at q5 f5;have HM5:=Lib.hid M5;clear o5 g5 n5 r5 M5)
  obtain ⟨W7,hW7⟩:∃ W7,W7=(w5.setCell ⟨g,2,none⟩ (.slice a5 m5 c5)).setCell ⟨g,1,none⟩ (.int .i64 (q:Int)):=⟨_,rfl⟩
  have M7:=HM5.out.put q
  rw[←hW7] at M7 ⊢
  clear hW7 HM5 q5 f5 hcl3 hfr3 rr qr fr bT HM3 HC3
  have rr:=(M7.keep.block w.heap.size hwg).trans HR1.out
  have bT:Below w.heap.size w W7:=HB1.out.trans (M7.keep.mono (Nat.le_of_lt hwg))
  have qr:=fun j=>cell_of_row W7 _ j _ _ _ rr
  have fr:=fun j=>frozen_of_row W7 _ j _ _ rr
  have hcl7:=fun j=>cell_of_row W7 g j _ _ _ M7.row
  have hfr7:=fun j=>frozen_of_row W7 g j _ _ M7.row
  unfold rdsC at hcl7 hfr7
  have HM7:=Lib.hid M7
  clear M7
  go_upto_region 19 with fail
  obtain ⟨W8,hW8⟩:∃ W8,W8=W7.setCell ⟨g,1,none⟩ (.int .i64 ((q:Int)+3)):=⟨_,rfl⟩
  have M8:=HM7.out.put (q+3)
  rw[show W7.setCell ⟨g,1,none⟩ (.int .i64 ((q+3:Nat):Int))=W8 from hW8.symm] at M8
  rw[←hW8]
  clear hW8
  have CT:∀ W:World,Below w1.heap.size w1 W→Calls Tryz.prog 8 #[.string s,.int .i64 ((q+3:Nat):Int),.bool true] W fun e w'=>∃ (c:List Value) (lv:Value),e=.returned (.tuple #[.agg c.toArray,lv,.int .i64 (e0:Int),.int .i64 0])∧Cells12 c∧ComsR (Nw W.heap.size w'.heap.size) w' lv F∧(∀ t,some x=some t→IsN (Nw W.heap.size w'.heap.size) w' t c)∧Below W.heap.size W w':=fun W hW=>trReadN_is K (some x) F (e0:Int) 0 s _ true W hs hPs (K.below _ _ hEv (HB1.out.trans (hW.mono (Nat.le_of_lt hwg)))) hZ
  have CD:=stDoc_is M8 hs CT (by have:=HX.out.2.2.1;omega)
  go_wp2_with fail
  refine CD.mono ?_
  rintro e w8 ⟨h1,_⟩
  obtain ⟨rfl,h2⟩:=h1 (by first|rfl|trivial)
  obtain ⟨kv8,cs8,R8,M9⟩:=h2 x rfl
  have hX2:=HX.out.2
  have HXN:Hid (([]:Coms).length+g0*20003≤20000*20003∧([]:List (List UInt8)).length+g0≤20000∧(xs++[(⟨H++L,ds,true,x,F⟩:DT)]).length+g0≤20000∧∀ x∈([]:List (List UInt8)),x.length≤1000000):=⟨by show 0+g0*20003≤_;omega,by show 0+g0≤_;omega,by rw[List.length_append];show xs.length+1+g0≤_;omega,fun x hx=>(by cases hx)⟩
  clear CD h1 h2 hX2 hcl7 hfr7 rr qr fr bT HM7 hX M8 CT
  go_wp2
  go_roundg g0
  case rel=>exact ⟨e0,_,_,_,_,_,_,_,_,M9,HSS,HXN⟩
  case measure=>omega
 | @markX g0 _ _ _ _ L S q x F e1 cc hp hb hZ hc h1 h2 h3 h4=>
  clear HS
  subst h1 h2
  obtain ⟨e0,rfl⟩:=hZ.nat
  obtain ⟨hq,hL,CN⟩:=pass_call hs hp
  go_wp2_with fail
  refine (CN _).mono ?_
  rintro e w3 ⟨v3,rfl,hO3,hb3⟩
  have M3:=HM.out.below hb3
  have hh3:=HasV.of_own hO3
  obtain ⟨a3,c3,e3⟩:=hh3.form
  subst e3
  have HC3:=Lib.hid hh3.toComs
  have rr:=(M3.keep.block w.heap.size hwg).trans HR1.out
  have bT:Below w.heap.size w w3:=HB1.out.trans (M3.keep.mono (Nat.le_of_lt hwg))
  have qr:=fun j=>cell_of_row w3 _ j _ _ _ rr
  have fr:=fun j=>frozen_of_row w3 _ j _ _ rr
  have hcl3:=fun j=>cell_of_row w3 g j _ _ _ M3.row
  have hfr3:=fun j=>frozen_of_row w3 g j _ _ M3.row
  unfold rdsC at hcl3 hfr3
  have HM3:=Lib.hid M3
  clear hcl hfr CN hO3 hh3 hb3 M3
  go_wp2_with fail
  refine (stBegins_is _ _ s _ hs hq hb).mono ?_
  rintro e w4 ⟨rfl,rfl⟩
  go_upto_region 6 with fail
  go_cut [10,42] from 13 to 80 (fun v c wx=>v=.int .i64 3∧c=.bool false∧wx=w4)
  case first=>
   go_wp2_with fail
   all_goals
    go_meet
    exact ⟨rfl,rfl,rfl⟩
  case rest=>
  obtain ⟨rfl,rfl,hwc⟩:=hcut
  obtain rfl:w4=_:=hwc.symm
  have hX:=HX.out.1
  go_upto_region 11 with (at_builtin;refine appendH rfl _ _ rfl _ (.slice ha H.length ca) (.slice a3 L.length c3) H L rfl rfl HM3.out.hh HC3.out (by omega) ?_;intro v5 w5 o5 g5 n5;have M5:=HM3.out.more o5 g5 n5;have r5:=HM3.out.row1 g5 (Below.refl _ _);obtain ⟨a5,c5,e5⟩:=o5.form;obtain ⟨m5,hm5⟩:∃ m,m=(H++L).length:=⟨_,rfl⟩;rw[←hm5] at e5;subst e5;have HL5:Hid (m5=(H++L).length):=hm5;clear hm5;have q5:=fun j=>cell_of_row w5 g j _ _ _ r5;have f5:=fun j=>frozen_of_row w5 g j _ _ r5;unfold rdsC at q5 f5;have HM5:=Lib.hid M5;clear o5 g5 n5 r5 M5)
  obtain ⟨W7,hW7⟩:∃ W7,W7=(w5.setCell ⟨g,2,none⟩ (.slice a5 m5 c5)).setCell ⟨g,1,none⟩ (.int .i64 (q:Int)):=⟨_,rfl⟩
  have M7:=HM5.out.put q
  rw[←hW7] at M7 ⊢
  clear hW7 HM5 q5 f5 hcl3 hfr3 rr qr fr bT HM3 HC3
  have rr:=(M7.keep.block w.heap.size hwg).trans HR1.out
  have bT:Below w.heap.size w W7:=HB1.out.trans (M7.keep.mono (Nat.le_of_lt hwg))
  have qr:=fun j=>cell_of_row W7 _ j _ _ _ rr
  have fr:=fun j=>frozen_of_row W7 _ j _ _ rr
  have hcl7:=fun j=>cell_of_row W7 g j _ _ _ M7.row
  have hfr7:=fun j=>frozen_of_row W7 g j _ _ M7.row
  unfold rdsC at hcl7 hfr7
  have HM7:=Lib.hid M7
  clear M7
  go_upto_region 19 with fail
  obtain ⟨W8,hW8⟩:∃ W8,W8=W7.setCell ⟨g,1,none⟩ (.int .i64 ((q:Int)+3)):=⟨_,rfl⟩
  have M8:=HM7.out.put (q+3)
  rw[show W7.setCell ⟨g,1,none⟩ (.int .i64 ((q+3:Nat):Int))=W8 from hW8.symm] at M8
  rw[←hW8]
  clear hW8
  have CT:∀ W:World,Below w1.heap.size w1 W→Calls Tryz.prog 8 #[.string s,.int .i64 ((q+3:Nat):Int),.bool true] W fun e w'=>∃ (c:List Value) (lv:Value),e=.returned (.tuple #[.agg c.toArray,lv,.int .i64 (e0:Int),.int .i64 cc])∧Cells12 c∧ComsR (Nw W.heap.size w'.heap.size) w' lv F∧(∀ t,x=some t→IsN (Nw W.heap.size w'.heap.size) w' t c)∧Below W.heap.size W w':=fun W hW=>trReadN_is K (x) F (e0:Int) cc s _ true W hs hPs (K.below _ _ hEv (HB1.out.trans (hW.mono (Nat.le_of_lt hwg)))) hZ
  have CD:=stDoc_is M8 hs CT (by have:=HX.out.2.2.1;omega)
  go_wp2_with fail
  refine CD.mono ?_
  rintro e w8 ⟨_,h1⟩
  obtain ⟨rfl,hst,hb8⟩:=h1 (by first|exact hc|trivial)
  have hcb:(cc != 0)=true:=by simpa using hc
  clear M8 CT
  clear CD h1 hcl7 hfr7 rr qr fr bT HM7 hX
  have rr:=(hb8.block w.heap.size hwg).trans HR1.out
  have bT:Below w.heap.size w w8:=HB1.out.trans (hb8.mono (Nat.le_of_lt hwg))
  have qr:=fun j=>cell_of_row w8 _ j _ _ _ rr
  have fr:=fun j=>frozen_of_row w8 _ j _ _ rr
  clear hb8
  have hgb:¬ g=w.heap.size:=by have:=HG.out;omega
  have hgb2:¬ w.heap.size=g:=fun e=>hgb e.symm
  go_wp2_with fail
  go_region
  all_goals
   obtain ⟨wE,hwE⟩:∃ wE,wE=((w8.setCell ⟨w.heap.size,0,none⟩ (.slice none 0 0)).setCell ⟨w.heap.size,1,none⟩ (.slice none 0 0)).drew:=⟨_,rfl⟩
   have rE:wE.heap[w.heap.size]?=some (.cells #[.slice none 0 0,.slice none 0 0] 42 (0,0)):=by rw[hwE];exact heap_setCell_same _ _ 1 _ _ _ (heap_setCell_same w8 _ 0 _ _ _ rr)
   have bE:Below w.heap.size w wE:=by rw[hwE];exact ((bT.setCell (p:=⟨w.heap.size,0,none⟩) (Nat.le_refl _) _).setCell (p:=⟨w.heap.size,1,none⟩) (Nat.le_refl _) _).drew
   rw[←hwE]
   clear hwE
   have qE:=fun j=>cell_of_row wE _ j _ _ _ rE
   go_wp2
   rw[Exit.noGoto_ret]
   refine bodyPost_ret (v:=.tuple #[.agg #[.slice none 0 0,.slice none 0 0],.int .i64 E,.int .i64 C]) (by simp[results,Tryz.results13,go_sem,qE,h3,h4]) rfl ?_
   exact ⟨_,_,rfl,DocsR.nil _ _,ComsR.nil _ _,bE⟩
 | @bare g0 _ _ _ L S q x F e0 hp hb hZ hS=>
  clear HS
  have HSS:=Lib.hid hS
  clear hS
  obtain ⟨hq,hL,CN⟩:=pass_call hs hp
  go_wp2_with fail
  refine (CN _).mono ?_
  rintro e w3 ⟨v3,rfl,hO3,hb3⟩
  have M3:=HM.out.below hb3
  have hh3:=HasV.of_own hO3
  obtain ⟨a3,c3,e3⟩:=hh3.form
  subst e3
  have HC3:=Lib.hid hh3.toComs
  have rr:=(M3.keep.block w.heap.size hwg).trans HR1.out
  have bT:Below w.heap.size w w3:=HB1.out.trans (M3.keep.mono (Nat.le_of_lt hwg))
  have qr:=fun j=>cell_of_row w3 _ j _ _ _ rr
  have fr:=fun j=>frozen_of_row w3 _ j _ _ rr
  have hcl3:=fun j=>cell_of_row w3 g j _ _ _ M3.row
  have hfr3:=fun j=>frozen_of_row w3 g j _ _ M3.row
  unfold rdsC at hcl3 hfr3
  have HM3:=Lib.hid M3
  clear hcl hfr CN hO3 hh3 hb3 M3
  go_wp2_with fail
  refine (stBegins_is _ _ s _ hs hq hb).mono ?_
  rintro e w4 ⟨rfl,rfl⟩
  have M8:=HM3.out
  have CT:∀ W:World,Below w1.heap.size w1 W→Calls Tryz.prog 8 #[.string s,.int .i64 ((p:Nat):Int),.bool false] W fun e w'=>∃ (c:List Value) (lv:Value),e=.returned (.tuple #[.agg c.toArray,lv,.int .i64 (e0:Int),.int .i64 0])∧Cells12 c∧ComsR (Nw W.heap.size w'.heap.size) w' lv F∧(∀ t,some x=some t→IsN (Nw W.heap.size w'.heap.size) w' t c)∧Below W.heap.size W w':=fun W hW=>trReadN_is K (some x) F (e0:Int) 0 s _ false W hs hPs (K.below _ _ hEv (HB1.out.trans (hW.mono (Nat.le_of_lt hwg)))) hZ
  have CD:=stDoc_is M8 hs CT (by have:=HX.out.2.2.1;omega)
  go_wp2_with fail
  refine CD.mono ?_
  rintro e w8 ⟨h1,_⟩
  obtain ⟨rfl,h2⟩:=h1 (by first|rfl|trivial)
  obtain ⟨kv8,cs8,R8,M9⟩:=h2 x rfl
  have hX2:=HX.out.2
  have HXN:Hid (([]:Coms).length+g0*20003≤20000*20003∧([]:List (List UInt8)).length+g0≤20000∧(xs++[(⟨H,[],false,x,F⟩:DT)]).length+g0≤20000∧∀ x∈([]:List (List UInt8)),x.length≤1000000):=⟨by show 0+g0*20003≤_;omega,by show 0+g0≤_;omega,by rw[List.length_append];show xs.length+1+g0≤_;omega,fun x hx=>(by cases hx)⟩
  clear CD h1 h2 hX2 hcl3 hfr3 rr qr fr bT HM3 M8 CT
  go_wp2
  go_roundg g0
  case rel=>exact ⟨e0,_,_,_,_,_,_,_,_,M9,HSS,HXN⟩
  case measure=>omega
 | @bareX g0 _ _ _ L S q x F e1 cc hp hb hZ hc h1 h2 h3 h4=>
  clear HS
  subst h1 h2
  obtain ⟨e0,rfl⟩:=hZ.nat
  obtain ⟨hq,hL,CN⟩:=pass_call hs hp
  go_wp2_with fail
  refine (CN _).mono ?_
  rintro e w3 ⟨v3,rfl,hO3,hb3⟩
  have M3:=HM.out.below hb3
  have hh3:=HasV.of_own hO3
  obtain ⟨a3,c3,e3⟩:=hh3.form
  subst e3
  have HC3:=Lib.hid hh3.toComs
  have rr:=(M3.keep.block w.heap.size hwg).trans HR1.out
  have bT:Below w.heap.size w w3:=HB1.out.trans (M3.keep.mono (Nat.le_of_lt hwg))
  have qr:=fun j=>cell_of_row w3 _ j _ _ _ rr
  have fr:=fun j=>frozen_of_row w3 _ j _ _ rr
  have hcl3:=fun j=>cell_of_row w3 g j _ _ _ M3.row
  have hfr3:=fun j=>frozen_of_row w3 g j _ _ M3.row
  unfold rdsC at hcl3 hfr3
  have HM3:=Lib.hid M3
  clear hcl hfr CN hO3 hh3 hb3 M3
  go_wp2_with fail
  refine (stBegins_is _ _ s _ hs hq hb).mono ?_
  rintro e w4 ⟨rfl,rfl⟩
  have M8:=HM3.out
  have CT:∀ W:World,Below w1.heap.size w1 W→Calls Tryz.prog 8 #[.string s,.int .i64 ((p:Nat):Int),.bool false] W fun e w'=>∃ (c:List Value) (lv:Value),e=.returned (.tuple #[.agg c.toArray,lv,.int .i64 (e0:Int),.int .i64 cc])∧Cells12 c∧ComsR (Nw W.heap.size w'.heap.size) w' lv F∧(∀ t,x=some t→IsN (Nw W.heap.size w'.heap.size) w' t c)∧Below W.heap.size W w':=fun W hW=>trReadN_is K (x) F (e0:Int) cc s _ false W hs hPs (K.below _ _ hEv (HB1.out.trans (hW.mono (Nat.le_of_lt hwg)))) hZ
  have CD:=stDoc_is M8 hs CT (by have:=HX.out.2.2.1;omega)
  go_wp2_with fail
  refine CD.mono ?_
  rintro e w8 ⟨_,h1⟩
  obtain ⟨rfl,hst,hb8⟩:=h1 (by first|exact hc|trivial)
  have hcb:(cc != 0)=true:=by simpa using hc
  clear M8 CT
  clear CD h1 hcl3 hfr3 rr qr fr bT HM3
  have rr:=(hb8.block w.heap.size hwg).trans HR1.out
  have bT:Below w.heap.size w w8:=HB1.out.trans (hb8.mono (Nat.le_of_lt hwg))
  have qr:=fun j=>cell_of_row w8 _ j _ _ _ rr
  have fr:=fun j=>frozen_of_row w8 _ j _ _ rr
  clear hb8
  have hgb:¬ g=w.heap.size:=by have:=HG.out;omega
  have hgb2:¬ w.heap.size=g:=fun e=>hgb e.symm
  go_wp2_with fail
  go_region
  all_goals
   obtain ⟨wE,hwE⟩:∃ wE,wE=((w8.setCell ⟨w.heap.size,0,none⟩ (.slice none 0 0)).setCell ⟨w.heap.size,1,none⟩ (.slice none 0 0)).drew:=⟨_,rfl⟩
   have rE:wE.heap[w.heap.size]?=some (.cells #[.slice none 0 0,.slice none 0 0] 42 (0,0)):=by rw[hwE];exact heap_setCell_same _ _ 1 _ _ _ (heap_setCell_same w8 _ 0 _ _ _ rr)
   have bE:Below w.heap.size w wE:=by rw[hwE];exact ((bT.setCell (p:=⟨w.heap.size,0,none⟩) (Nat.le_refl _) _).setCell (p:=⟨w.heap.size,1,none⟩) (Nat.le_refl _) _).drew
   rw[←hwE]
   clear hwE
   have qE:=fun j=>cell_of_row wE _ j _ _ _ rE
   go_wp2
   rw[Exit.noGoto_ret]
   refine bodyPost_ret (v:=.tuple #[.agg #[.slice none 0 0,.slice none 0 0],.int .i64 E,.int .i64 C]) (by simp[results,Tryz.results13,go_sem,qE,h3,h4]) rfl ?_
   exact ⟨_,_,rfl,DocsR.nil _ _,ComsR.nil _ _,bE⟩
end Go.Proofs.YthcmkpiajkbpnaaGreatDoor
