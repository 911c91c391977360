/- Parts of the proof, put together from smaller texts (blanks that Lean does not want are struck). Conditions: those that each theorem writes out. -/
import Derived.Lib.LaidTab
import Derived.MakeChecks
import Derived.Stop.LaidErr
import Derived.Test.YtncngeamdechmaaGreatDoorZ00
import Derived.Test.YtncngeamdechmaaGreatDoorZ02
import Derived.Test.YtncngeamdechmaaGreatDoorZ05
import Derived.Test.YtncngeamdechmaaGreatDoorZ08
import Derived.Test.YtncngeamdechmaaGreatDoorZ15
import Derived.Test.YtncngeamdechmaaGreatDoorZ16
import Derived.Test.YtncngeamdechmaaGreatDoorZ32
namespace Go.Proofs.YtncngeamdechmaaGreatDoor
open Go.RowKit
theorem flPeek_neg (g:Nat) (s:ByteArray) (n p e0:Int) (v:Value) (nr:Bool) (w:World) (h:FlAt g s n p e0 v nr w) (hp:p<0) :
  Calls Tryz.prog 16 #[.pointer (some ⟨g,0,none⟩)] w fun e w'=>e=.returned (.int .u8 ((0:Nat):Int))∧∃ k,w'=w.drewN k:=by
 have hc:=h.cell
 clear h
 go_enter Tryz.func16,Tryz.ntmps16
 go_wp2_with fail
 go_quiet (fail)
 go_wp2
 go_ret
 exact ⟨rfl,_,rfl⟩
theorem flCollZ (w0:World) (hEv:Env w0) (g:Nat) (hg0:w0.heap.size≤g) (s:ByteArray) (hs:s.size≤10000) (n at' deep:Int) (x:Option NT) (E C:Int) (hZ:FlowZ s at' n deep x E C) (w:World) (hB0:Below w0.heap.size w0 w) (h:FlAt g s n at' 0 (.slice none 0 0) false w) :
  Calls Tryz.prog 14 #[.pointer (some ⟨g,0,none⟩),.int .i64 (max deep 0)] w fun e w'=>∃ cs fE vE nr R,e=.returned (.tuple #[.agg cs.toArray,.int .i64 C])∧Cells12 cs∧FlAt g s n E fE vE nr w'∧Keep (fun k=>k<w.heap.size∧k≠g) w w'∧(∀ t,x=some t→C=0∧IsN R w' t cs)∧(∀ k,R k→w.heap.size≤k∧k<w'.heap.size)∧(x=none→C≠0):=by
 unfold FlowZ at hZ
 by_cases hbr:0≤at'∧(isB s at'.toNat 91=true∨isB s at'.toNat 123=true)
 ·rw[if_pos hbr] at hZ
  obtain ⟨gg,o,hcol,hm⟩:=hZ
  obtain ⟨p,rfl⟩:∃ p:Nat,at'=(p:Int):=⟨at'.toNat,by omega⟩
  have hbr:=hbr.2
  rw[Int.toNat_natCast] at hbr hcol
  have hps:p<s.size:=by
   rcases hbr with hb|hb
   ·exact (isB_lt hb).1
   ·exact (isB_lt hb).1
  have hP:=coll_to s n gg _ p o hps hcol
  have hR:RS g s n ⟨[],false,0,p⟩ (.slice none 0 0) w:=⟨h,HasV.nil 2 _,(fun e=>by cases e),⟨Nat.zero_le _,Nat.le_of_lt hps,Nat.zero_le _,fun e=>by cases e⟩⟩
  have fin:∀ e w',NodePost g s n w [] (rdMap (fun r=>(r.1,fresh r.2)) o) e w'→∃ cs fE vE nr R,e=.returned (.tuple #[.agg cs.toArray,.int .i64 C])∧Cells12 cs∧FlAt g s n E fE vE nr w'∧Keep (fun k=>k<w.heap.size∧k≠g) w w'∧(∀ t,x=some t→C=0∧IsN R w' t cs)∧(∀ k,R k→w.heap.size≤k∧k<w'.heap.size)∧(x=none→C≠0):=by
   rintro e w' ⟨cs,c,rfl,x1,r1,v1,R,M⟩
   have K:Keep (fun k=>k<w.heap.size∧k≠g) w w':=M.keep.mono (fun k hk=>⟨hk.1,hk.2,fun u hu=>by cases hu⟩)
   have own:∀ k,R k→w.heap.size≤k∧k<w'.heap.size:=fun k hk=>⟨(by
    rcases M.own k hk with h|⟨u,hu,_⟩
    ·exact h
    ·cases hu),M.lt k hk⟩
   have hres:=M.res
   cases o with
   | ok rr=>
    obtain ⟨rfl,rfl,rfl⟩:=hm
    obtain ⟨rfl,e2⟩:=hres
    injection e2 with e2 e3
    have e4:r1.at'=rr.2:=by rw[←e3];rfl
    refine ⟨cs,(r1.fin:Int),v1,r1.same,R,rfl,M.node.cells12,?_,K,fun t ht=>?_,own,fun h=>by cases h⟩
    ·rw[←e4]
     exact M.st.cells
    ·injection ht with ht
     subst ht
     rw[e2]
     exact ⟨rfl,M.node⟩
   | bad q k=>
    obtain ⟨rfl,rfl,rfl⟩:=hm
    obtain ⟨rfl,hc0,rfl⟩:=hres
    exact ⟨cs,(r1.fin:Int),v1,r1.same,R,rfl,M.node.cells12,M.st.cells,K,fun t ht=>(by cases ht),own,fun _=>hc0⟩
  by_cases hd:40≤max deep 0
  ·have ho:o=.bad p 6:=by
    cases gg with
    | zero=>exact hP.elim
    | succ gg=>
     rcases hP with ⟨_,e⟩|⟨h,_⟩
     ·exact e
     ·omega
   subst ho
   have pk:∀ c,c≠0→isB s p c=true→pkN s p=c:=fun c h0 hb=>by
    rw[isB_pk s p c h0] at hb
    exact of_decide_eq_true hb
   rcases hbr with hb|hb
   ·exact (flColl_d91 g s hs n (max deep 0) p 0 hd w hR (pk 91 (by decide) hb)).mono fin
   ·exact (flColl_d123 g s hs n (max deep 0) p 0 hd w hR (pk 123 (by decide) hb)).mono fin
  ·obtain ⟨dn,hdn⟩:∃ dn:Nat,max deep 0=(dn:Int):=⟨(max deep 0).toNat,by omega⟩
   rw[hdn] at hP hd ⊢
   rw[show (min (dn:Int) 40).toNat=dn by omega] at hP
   exact (flColl_is w0 hEv g hg0 s hs n gg dn p 0 o w (by omega) hbr hP hR ⟨hB0,fun u hu=>by cases hu⟩).mono fin
 ·rw[if_neg hbr] at hZ
  obtain ⟨rfl,rfl,rfl⟩:=hZ
  have fin:∀ (e:Ending) (w':World),(∃ cs:List Value,e=.returned (.tuple #[.agg cs.toArray,.int .i64 5])∧Cells12 cs∧FlAt g s n E 0 (.slice none 0 0) false w'∧Keep (fun k=>k<w.heap.size) w w')→∃ cs fE vE nr R,e=.returned (.tuple #[.agg cs.toArray,.int .i64 5])∧Cells12 cs∧FlAt g s n E fE vE nr w'∧Keep (fun k=>k<w.heap.size∧k≠g) w w'∧(∀ t,(none:Option NT)=some t→(5:Int)=0∧IsN R w' t cs)∧(∀ k,R k→w.heap.size≤k∧k<w'.heap.size)∧((none:Option NT)=none→(5:Int)≠0):=by
   rintro e w' ⟨cs,rfl,h1,h2,h3⟩
   exact ⟨cs,0,_,false,fun _=>False,rfl,h1,h2,h3.mono (fun k hk=>hk.1),fun t ht=>(by cases ht),fun k hk=>hk.elim,fun _=>by decide⟩
  by_cases hn:E<0
  ·exact (flColl_none 0 (by decide) (by decide) g s n E 0 (max deep 0) w h (fun W H=>flPeek_neg g s n E 0 _ false W H hn)).mono fin
  ·obtain ⟨p,rfl⟩:∃ p:Nat,E=(p:Int):=⟨E.toNat,by omega⟩
   rw[Int.toNat_natCast] at hbr
   have h1:pkN s p≠91:=fun e=>hbr ⟨by omega,.inl (by rw[isB_pk s p 91 (by decide)];exact decide_eq_true e)⟩
   have h2:pkN s p≠123:=fun e=>hbr ⟨by omega,.inr (by rw[isB_pk s p 123 (by decide)];exact decide_eq_true e)⟩
   exact (flColl_none (pkN s p) h1 h2 g s n (p:Int) 0 (max deep 0) w h (fun W H=>flPeek_is (pkN s p) g s n p 0 _ false W H (by omega) rfl)).mono fin
set_option maxRecDepth 100000 in
set_option maxHeartbeats 3200000 in
theorem flRead_is (x:Option NT) (E C:Int) (s:ByteArray) (at' n deep:Int) (w:World) (hs:s.size≤10000) (hEv:Env w) (hZ:FlowZ s at' n deep x E C) :
  Calls Tryz.prog 10 #[.string s,.int .i64 at',.int .i64 n,.int .i64 deep] w fun e w'=>∃ cs:List Value,e=.returned (.tuple #[.agg cs.toArray,.int .i64 E,.int .i64 C])∧Cells12 cs∧(∀ t,x=some t→IsN (Lo w'.heap.size) w' t cs)∧Below w.heap.size w w':=by
 obtain ⟨W1,hW1⟩:∃ W1,W1=(w.alloc (.cells #[.int .i64 0,.int .i64 0,.int .i64 0,.int .i64 0,.string ⟨#[]⟩,.string ⟨#[]⟩,.string ⟨#[]⟩,.slice none 0 0,.slice none 0 0,.slice none 0 0,.bool false,.string ⟨#[]⟩] 30)).alloc (.cells #[.string s,.int .i64 n,.int .i64 at',.int .i64 0,.slice none 0 0,.bool false] 44):=⟨_,rfl⟩
 have b1:Below w.heap.size w W1:=by rw[hW1];exact ((Below.refl _ _).alloc (Nat.le_refl _) _).alloc (by simp) _
 have ra:W1.heap[w.heap.size]?=some (.cells #[.int .i64 0,.int .i64 0,.int .i64 0,.int .i64 0,.string ⟨#[]⟩,.string ⟨#[]⟩,.string ⟨#[]⟩,.slice none 0 0,.slice none 0 0,.slice none 0 0,.bool false,.string ⟨#[]⟩] 30 (0,0)):=by rw[hW1];exact (heap_alloc_old _ _ (by simp)).trans (heap_alloc_new w _)
 have h1:FlAt (w.heap.size+1) s n at' 0 (.slice none 0 0) false W1:=by
  rw[hW1]
  have:=heap_alloc_new (w.alloc (.cells #[.int .i64 0,.int .i64 0,.int .i64 0,.int .i64 0,.string ⟨#[]⟩,.string ⟨#[]⟩,.string ⟨#[]⟩,.slice none 0 0,.slice none 0 0,.slice none 0 0,.bool false,.string ⟨#[]⟩] 30)) (.cells #[.string s,.int .i64 n,.int .i64 at',.int .i64 0,.slice none 0 0,.bool false] 44)
  simpa [FlAt,flC] using this
 have CZ:=flCollZ w hEv (w.heap.size+1) (by omega) s hs n at' deep x E C hZ W1 b1 h1
 have HW:=Lib.hid hW1
 clear hW1 hZ
 go_enter Tryz.func10,Tryz.ntmps10
 go_wp2_with fail
 rw[←HW.out]
 refine CZ.mono ?_
 rintro e w2 ⟨cs,fE,vE,nr,R,rfl,h12,A2,K2,hx,hRl,hC⟩
 clear CZ
 obtain ⟨y0,y1,y2,y3,y4,y5,y6,ya,yb,yc,yd,ye,yf,yg,yh,yi,y7,y8,rfl⟩:=h12
 have z1:=b1.size
 have z1g:w.heap.size+1<W1.heap.size:=h1.lt
 have z2:=K2.size
 have hz2:=A2.lt
 have ra2:=(K2.block w.heap.size ⟨by omega,by omega⟩).trans ra
 have HA2:=Lib.hid A2
 have HK2:=Lib.hid K2
 have HX:=Lib.hid hx
 have HR:=Lib.hid hRl
 have HB1:=Lib.hid b1
 have Hra:=Lib.hid ra2
 clear A2 K2 hx hRl b1 ra ra2 h1
 have nexts:∀ ob,FlAt (w.heap.size+1) s n E fE vE nr (w2.alloc ob):=fun ob=>(heap_alloc_old w2 ob hz2).trans HA2.out
 have nexta:∀ ob,(w2.alloc ob).heap[w.heap.size]?=some (.cells #[.int .i64 0,.int .i64 0,.int .i64 0,.int .i64 0,.string ⟨#[]⟩,.string ⟨#[]⟩,.string ⟨#[]⟩,.slice none 0 0,.slice none 0 0,.slice none 0 0,.bool false,.string ⟨#[]⟩] 30 (0,0)):=fun ob=>(heap_alloc_old w2 ob (by omega)).trans Hra.out
 have HN:=Lib.hid (And.intro nexts nexta)
 clear nexts nexta
 cases x with
 | none=>
  have hCb:(C != 0)=true:=by rw[bne,Bool.not_eq_eq_eq_not,Bool.not_true,beq_eq_false_iff_ne];exact hC rfl
  clear hC
  go_upto_region 4 with fail
  obtain ⟨w3,hw3⟩:∃ w3,w3=w2.alloc (.cells #[.int .i64 y0,.int .i64 y1,.int .i64 y2,.int .i64 y3,.string y4,.string y5,.string y6,.slice ya yb yc,.slice yd ye yf,.slice yg yh yi,.bool y7,.string y8] 30):=⟨_,rfl⟩
  have A3:FlAt (w.heap.size+1) s n E fE vE nr w3:=by rw[hw3];exact HN.out.1 _
  have ra3:w3.heap[w.heap.size]?=some (.cells #[.int .i64 0,.int .i64 0,.int .i64 0,.int .i64 0,.string ⟨#[]⟩,.string ⟨#[]⟩,.string ⟨#[]⟩,.slice none 0 0,.slice none 0 0,.slice none 0 0,.bool false,.string ⟨#[]⟩] 30 (0,0)):=by rw[hw3];exact HN.out.2 _
  have rn3:w3.heap[w2.heap.size]?=some (.cells #[.int .i64 y0,.int .i64 y1,.int .i64 y2,.int .i64 y3,.string y4,.string y5,.string y6,.slice ya yb yc,.slice yd ye yf,.slice yg yh yi,.bool y7,.string y8] 30 (0,0)):=by rw[hw3];exact heap_alloc_new w2 _
  have b3:Below w2.heap.size w2 w3:=by rw[hw3];exact (Below.refl _ _).alloc (Nat.le_refl _) _
  rw[←hw3]
  clear hw3
  have qg3:=A3.cell
  have qg3d:∀ j,w3.drew.cell? ⟨w.heap.size+1,j,none⟩=(#[.string s,.int .i64 n,.int .i64 E,.int .i64 fE,vE,.bool nr]:Array Value)[j]?:=qg3
  have qa3:∀ j,w3.cell? ⟨w.heap.size,j,none⟩=(#[.int .i64 0,.int .i64 0,.int .i64 0,.int .i64 0,.string ⟨#[]⟩,.string ⟨#[]⟩,.string ⟨#[]⟩,.slice none 0 0,.slice none 0 0,.slice none 0 0,.bool false,.string ⟨#[]⟩]:Array Value)[j]?:=fun j=>cell_of_row w3 _ j _ _ _ ra3
  have qa3d:∀ j,w3.drew.cell? ⟨w.heap.size,j,none⟩=(#[.int .i64 0,.int .i64 0,.int .i64 0,.int .i64 0,.string ⟨#[]⟩,.string ⟨#[]⟩,.string ⟨#[]⟩,.slice none 0 0,.slice none 0 0,.slice none 0 0,.bool false,.string ⟨#[]⟩]:Array Value)[j]?:=qa3
  have fa3:∀ j,w3.frozen? ⟨w.heap.size,j,none⟩=false:=fun j=>frozen_of_row w3 _ j _ _ ra3
  have fa3d:∀ j,w3.drew.frozen? ⟨w.heap.size,j,none⟩=false:=fa3
  have qn3:∀ j,w3.cell? ⟨w2.heap.size,j,none⟩=(#[.int .i64 y0,.int .i64 y1,.int .i64 y2,.int .i64 y3,.string y4,.string y5,.string y6,.slice ya yb yc,.slice yd ye yf,.slice yg yh yi,.bool y7,.string y8]:Array Value)[j]?:=fun j=>cell_of_row w3 _ j _ _ _ rn3
  have qn3d:∀ j,w3.drew.cell? ⟨w2.heap.size,j,none⟩=(#[.int .i64 y0,.int .i64 y1,.int .i64 y2,.int .i64 y3,.string y4,.string y5,.string y6,.slice ya yb yc,.slice yd ye yf,.slice yg yh yi,.bool y7,.string y8]:Array Value)[j]?:=qn3
  have hn1:w.heap.size≠w2.heap.size:=by omega
  have hn2:w.heap.size+1≠w2.heap.size:=by omega
  have HA3:=Lib.hid A3
  have Hra3:=Lib.hid ra3
  clear A3 ra3 rn3
  go_region
  obtain ⟨w12,hw12⟩:∃ w12,w12=((((((((((((w3.setCell ⟨w.heap.size,0,none⟩ (.int .i64 0)).setCell ⟨w.heap.size,1,none⟩ (.int .i64 0)).setCell ⟨w.heap.size,2,none⟩ (.int .i64 0)).setCell ⟨w.heap.size,3,none⟩ (.int .i64 0)).setCell ⟨w.heap.size,4,none⟩ (.string ⟨#[]⟩)).setCell ⟨w.heap.size,5,none⟩ (.string ⟨#[]⟩)).setCell ⟨w.heap.size,6,none⟩ (.string ⟨#[]⟩)).setCell ⟨w.heap.size,7,none⟩ (.slice none 0 0)).setCell ⟨w.heap.size,8,none⟩ (.slice none 0 0)).setCell ⟨w.heap.size,9,none⟩ (.slice none 0 0)).setCell ⟨w.heap.size,10,none⟩ (.bool false)).setCell ⟨w.heap.size,11,none⟩ (.string ⟨#[]⟩)):=⟨_,rfl⟩
  have r12:w12.heap[w.heap.size]?=some (.cells #[.int .i64 0,.int .i64 0,.int .i64 0,.int .i64 0,.string ⟨#[]⟩,.string ⟨#[]⟩,.string ⟨#[]⟩,.slice none 0 0,.slice none 0 0,.slice none 0 0,.bool false,.string ⟨#[]⟩] 30 (0,0)):=by rw[hw12];exact row12_set w3 (hg:=Hra3.out) ..
  have b12:Below w.heap.size w3 w12:=by rw[hw12];exact row12_below w3 _ _ (Nat.le_refl _) _ _ _ _ _ _ _ _ _ _ _ _
  have s12:∀ k,¬ k=w.heap.size→w12.heap[k]?=w3.heap[k]?:=fun k hk=>by rw[hw12];exact row12_other w3 _ k hk ..
  rw[←hw12]
  clear hw12 qg3 qg3d qa3 qa3d fa3 fa3d qn3 qn3d
  have hcz:∀ j,w12.drew.cell? ⟨w.heap.size,j,none⟩=(#[.int .i64 0,.int .i64 0,.int .i64 0,.int .i64 0,.string ⟨#[]⟩,.string ⟨#[]⟩,.string ⟨#[]⟩,.slice none 0 0,.slice none 0 0,.slice none 0 0,.bool false,.string ⟨#[]⟩]:Array Value)[j]?:=fun j=>cell_of_row w12 _ j _ _ _ r12
  go_wp2
  refine bodyPost_ret (v:=.tuple #[.agg #[.int .i64 0,.int .i64 0,.int .i64 0,.int .i64 0,.string ⟨#[]⟩,.string ⟨#[]⟩,.string ⟨#[]⟩,.slice none 0 0,.slice none 0 0,.slice none 0 0,.bool false,.string ⟨#[]⟩],.int .i64 E,.int .i64 C]) (by simp[results,Tryz.results10,go_sem,hcz]) rfl ?_
  have z12:=b12.size
  have z3:=b3.size
  have bB:Below w.heap.size w w12.drew:=((HB1.out.trans (HK2.out.below (B:=w.heap.size) (fun k hk=>⟨by omega,by omega⟩))).trans ((b3.mono (by omega)).trans b12)).drew
  exact ⟨_,rfl,⟨_,_,_,_,_,_,_,_,_,_,_,_,_,_,_,_,_,_,rfl⟩,fun t ht=>(by cases ht),bB⟩
 | some t=>
  obtain ⟨rfl,-⟩:=HX.out t rfl
  go_upto_region 5 with fail
  obtain ⟨w3,hw3⟩:∃ w3,w3=w2.alloc (.cells #[.int .i64 y0,.int .i64 y1,.int .i64 y2,.int .i64 y3,.string y4,.string y5,.string y6,.slice ya yb yc,.slice yd ye yf,.slice yg yh yi,.bool y7,.string y8] 30):=⟨_,rfl⟩
  have A3:FlAt (w.heap.size+1) s n E fE vE nr w3:=by rw[hw3];exact HN.out.1 _
  have ra3:w3.heap[w.heap.size]?=some (.cells #[.int .i64 0,.int .i64 0,.int .i64 0,.int .i64 0,.string ⟨#[]⟩,.string ⟨#[]⟩,.string ⟨#[]⟩,.slice none 0 0,.slice none 0 0,.slice none 0 0,.bool false,.string ⟨#[]⟩] 30 (0,0)):=by rw[hw3];exact HN.out.2 _
  have rn3:w3.heap[w2.heap.size]?=some (.cells #[.int .i64 y0,.int .i64 y1,.int .i64 y2,.int .i64 y3,.string y4,.string y5,.string y6,.slice ya yb yc,.slice yd ye yf,.slice yg yh yi,.bool y7,.string y8] 30 (0,0)):=by rw[hw3];exact heap_alloc_new w2 _
  have b3:Below w2.heap.size w2 w3:=by rw[hw3];exact (Below.refl _ _).alloc (Nat.le_refl _) _
  rw[←hw3]
  clear hw3
  have qg3:=A3.cell
  have qg3d:∀ j,w3.drew.cell? ⟨w.heap.size+1,j,none⟩=(#[.string s,.int .i64 n,.int .i64 E,.int .i64 fE,vE,.bool nr]:Array Value)[j]?:=qg3
  have qa3:∀ j,w3.cell? ⟨w.heap.size,j,none⟩=(#[.int .i64 0,.int .i64 0,.int .i64 0,.int .i64 0,.string ⟨#[]⟩,.string ⟨#[]⟩,.string ⟨#[]⟩,.slice none 0 0,.slice none 0 0,.slice none 0 0,.bool false,.string ⟨#[]⟩]:Array Value)[j]?:=fun j=>cell_of_row w3 _ j _ _ _ ra3
  have qa3d:∀ j,w3.drew.cell? ⟨w.heap.size,j,none⟩=(#[.int .i64 0,.int .i64 0,.int .i64 0,.int .i64 0,.string ⟨#[]⟩,.string ⟨#[]⟩,.string ⟨#[]⟩,.slice none 0 0,.slice none 0 0,.slice none 0 0,.bool false,.string ⟨#[]⟩]:Array Value)[j]?:=qa3
  have fa3:∀ j,w3.frozen? ⟨w.heap.size,j,none⟩=false:=fun j=>frozen_of_row w3 _ j _ _ ra3
  have fa3d:∀ j,w3.drew.frozen? ⟨w.heap.size,j,none⟩=false:=fa3
  have qn3:∀ j,w3.cell? ⟨w2.heap.size,j,none⟩=(#[.int .i64 y0,.int .i64 y1,.int .i64 y2,.int .i64 y3,.string y4,.string y5,.string y6,.slice ya yb yc,.slice yd ye yf,.slice yg yh yi,.bool y7,.string y8]:Array Value)[j]?:=fun j=>cell_of_row w3 _ j _ _ _ rn3
  have qn3d:∀ j,w3.drew.cell? ⟨w2.heap.size,j,none⟩=(#[.int .i64 y0,.int .i64 y1,.int .i64 y2,.int .i64 y3,.string y4,.string y5,.string y6,.slice ya yb yc,.slice yd ye yf,.slice yg yh yi,.bool y7,.string y8]:Array Value)[j]?:=qn3
  have hn1:w.heap.size≠w2.heap.size:=by omega
  have hn2:w.heap.size+1≠w2.heap.size:=by omega
  have HA3:=Lib.hid A3
  have Hra3:=Lib.hid ra3
  clear A3 ra3 rn3
  go_region
  obtain ⟨w12,hw12⟩:∃ w12,w12=((((((((((((w3.setCell ⟨w.heap.size,0,none⟩ (.int .i64 y0)).setCell ⟨w.heap.size,1,none⟩ (.int .i64 y1)).setCell ⟨w.heap.size,2,none⟩ (.int .i64 y2)).setCell ⟨w.heap.size,3,none⟩ (.int .i64 y3)).setCell ⟨w.heap.size,4,none⟩ (.string y4)).setCell ⟨w.heap.size,5,none⟩ (.string y5)).setCell ⟨w.heap.size,6,none⟩ (.string y6)).setCell ⟨w.heap.size,7,none⟩ (.slice ya yb yc)).setCell ⟨w.heap.size,8,none⟩ (.slice yd ye yf)).setCell ⟨w.heap.size,9,none⟩ (.slice yg yh yi)).setCell ⟨w.heap.size,10,none⟩ (.bool y7)).setCell ⟨w.heap.size,11,none⟩ (.string y8)):=⟨_,rfl⟩
  have r12:w12.heap[w.heap.size]?=some (.cells #[.int .i64 y0,.int .i64 y1,.int .i64 y2,.int .i64 y3,.string y4,.string y5,.string y6,.slice ya yb yc,.slice yd ye yf,.slice yg yh yi,.bool y7,.string y8] 30 (0,0)):=by rw[hw12];exact row12_set w3 (hg:=Hra3.out) ..
  have b12:Below w.heap.size w3 w12:=by rw[hw12];exact row12_below w3 _ _ (Nat.le_refl _) _ _ _ _ _ _ _ _ _ _ _ _
  have s12:∀ k,¬ k=w.heap.size→w12.heap[k]?=w3.heap[k]?:=fun k hk=>by rw[hw12];exact row12_other w3 _ k hk ..
  rw[←hw12]
  clear hw12 qg3 qg3d qa3 qa3d fa3 fa3d qn3 qn3d
  have hcz:∀ j,w12.drew.cell? ⟨w.heap.size,j,none⟩=(#[.int .i64 y0,.int .i64 y1,.int .i64 y2,.int .i64 y3,.string y4,.string y5,.string y6,.slice ya yb yc,.slice yd ye yf,.slice yg yh yi,.bool y7,.string y8]:Array Value)[j]?:=fun j=>cell_of_row w12 _ j _ _ _ r12
  go_wp2
  refine bodyPost_ret (v:=.tuple #[.agg #[.int .i64 y0,.int .i64 y1,.int .i64 y2,.int .i64 y3,.string y4,.string y5,.string y6,.slice ya yb yc,.slice yd ye yf,.slice yg yh yi,.bool y7,.string y8],.int .i64 E,.int .i64 0]) (by simp[results,Tryz.results10,go_sem,hcz]) rfl ?_
  have z12:=b12.size
  have z3:=b3.size
  have bB:Below w.heap.size w w12.drew:=((HB1.out.trans (HK2.out.below (B:=w.heap.size) (fun k hk=>⟨by omega,by omega⟩))).trans ((b3.mono (by omega)).trans b12)).drew
  refine ⟨_,rfl,⟨_,_,_,_,_,_,_,_,_,_,_,_,_,_,_,_,_,_,rfl⟩,fun t1 ht=>?_,bB⟩
  obtain ⟨-,hN⟩:=HX.out t1 ht
  refine IsN.frame (w':=w12.drew) (fun b hb=>?_) t1 _ hN
  obtain ⟨q1,q2⟩:=HR.out b hb
  exact ⟨show b<w12.heap.size by omega,(s12 b (by omega)).trans (b3.block b q2)⟩
theorem flowC:FlowC Env:=⟨fun _ _ h hb=>h.below hb,flRead_is⟩
end Go.Proofs.YtncngeamdechmaaGreatDoor
namespace Go.Proofs.YtncngeamdechmaaGreatDoor
open Go.RowKit
def bitsTab:List Int:=[0,1,56,2,57,49,28,3,61,58,42,50,38,29,17,4,62,47,59,36,45,43,51,22,53,39,33,30,24,18,12,5,63,55,48,27,60,41,37,16,46,35,44,21,52,32,23,11,54,26,40,15,34,20,31,10,25,14,19,9,13,8,7,6]
theorem gTab : Tryz.prog.globalNamed "math/bits.deBruijn64tab" = some 7 := by kernel_rfl
theorem gTabType:(Tryz.prog.globals[7]?).map (·.type)=some 176:=by kernel_rfl
theorem gES : Tryz.prog.globalNamed "strconv.ErrSyntax" = some 3 := by kernel_rfl
theorem gESType:(Tryz.prog.globals[3]?).map (·.type)=some 117:=by kernel_rfl
theorem cellsTab:Tryz.prog.cellsOf 176=64:=by kernel_rfl
theorem cells8':Tryz.prog.cellsOf 5=1:=by kernel_rfl
theorem cellsES:Tryz.prog.cellsOf 162=1:=by kernel_rfl
theorem cells9':Tryz.prog.cellsOf 9=1:=by kernel_rfl
theorem starES : "*" ++ "errors.errorString" = "*errors.errorString" := by decide
theorem rowES (u : TypeId) (h : Tryz.prog.typeName? 3 u = some "*errors.errorString") : u = 160 :=
 typeName_ptr_named (nm := "errors.errorString") (by rw [starES]; kernel_rfl) (by kernel_rfl) (by decide) u (by rw [starES]; exact h)
theorem laid_mem {P:Program} {W:World} {x:String × DataW Unit}:∀ {L:List (String × DataW Unit)},laidMet P L W→x∈L→∃ t,laidMet P (x :: t) W
 | _ :: _,h,.head _=>⟨_,h⟩
 | _ :: _,h,.tail _ hm=>laid_mem h.tail hm
theorem env_of (L:List (String × DataW Unit)) (W:World) (hL:laidMet Tryz.prog L W) (hsh:W.ShapedOpen Tryz.prog)
  (m1 : ("math/bits.deBruijn64tab", Lib.tabData .u8 bitsTab) ∈ L) (m2 : ("strconv.ErrSyntax", .iface "*errors.errorString" (.ptr (.agg [.lit (.string [105, 110, 118, 97, 108, 105, 100, 32, 115, 121, 110, 116, 97, 120])]))) ∈ L) : Env W := by
 obtain ⟨t1,h1⟩:=laid_mem hL m1
 obtain ⟨t2,h5⟩:=laid_mem hL m2
 have ht:=Lib.tabIs_of_head gTab gTabType Tryz.underlying176 Tryz.underlying5 cells8' cellsTab h1
 have hc:=ht.cell gTab 15 (by decide)
 obtain ⟨a0,s0,hv0,-,-,-⟩:=laid_sentinel h5 gES gESType Tryz.underlying117 rowES Tryz.underlying160 Tryz.underlying162 rfl rfl Tryz.underlying9 cellsES cells9'
 have h0:=World.var?_cell gES hv0 0
 exact ⟨maxIs_shaped W hsh,⟨_,by simpa using h0,.inr ⟨_,_,rfl⟩⟩,hc⟩
end Go.Proofs.YtncngeamdechmaaGreatDoor
namespace Go.Proofs.YtncngeamdechmaaGreatDoor
open Go.RowKit
def twice:List (List UInt8)→List (List UInt8)
 | []=>[]
 | w :: t=>w :: w :: twice t
section
variable {s:ByteArray} {col:Nat→Nat→Rd (NT × Nat)→Prop}
end
end Go.Proofs.YtncngeamdechmaaGreatDoor
