/- Parts of the proof, put together from smaller texts (blanks that Lean does not want are struck). Conditions: those that each theorem writes out. -/
import Derived.Deep.CutBlock
import Derived.Deep.DeepCutAuto
import Derived.Deep.LoopGhost
import Derived.KernelRfl
import Derived.Laws.Tables
import Derived.Test.YthcmkpiajkbpnaaGreatDoorZ07
import Derived.Test.YthcmkpiajkbpnaaGreatDoorZ09
import Derived.Test.YthcmkpiajkbpnaaGreatDoorZ15
import Derived.Test.YthcmkpiajkbpnaaGreatDoorZ38
namespace Go.Proofs.YthcmkpiajkbpnaaGreatDoor
open Go.RowKit
theorem hRest_fix {s:ByteArray} {x:Nat × Nat × Nat} (h:hStep s x=x):∀ k,hRest s k x=x
 | 0=>rfl
 | k+1=>by rw[hRest,h];exact hRest_fix h k
theorem hStep_end {s:ByteArray} {a t d c:Nat} (h:RowE s a t):hStep s (t,d,c)=(t,d,c):=by
 rcases h.2.2.2 with e|e
 ·unfold hStep
  rw[if_neg (by show ¬ t<s.size;omega)]
 ·exact hStep_none (by omega) (by omega)
set_option maxRecDepth 100000 in
set_option maxHeartbeats 3200000 in
theorem readHeader_is (d' c':Nat) (h':Bool) (N':ByteArray) (E C:Int) (d c p:Nat) (s R:ByteArray) (a t:Nat) (w:World) (hs:s.size≤1099511627776) (ha:a<t) (hR:R=s.extract 0 t) (hE:RowE s a t) (hx:hdr s a=(p,d,c))
  (CT:p<t→∀ W,Calls Tryz.prog 139 #[.agg #[.int .i64 (d:Int),.int .u8 (c:Int),.bool false,.string ⟨#[]⟩],.string R,.int .i64 (p:Int)] W fun e w'=>e=.returned (.tuple #[.agg #[.int .i64 (d':Int),.int .u8 (c':Int),.bool h',.string N'],.int .i64 E,.int .i64 C])∧Below W.heap.size W w')
  (CE:p=t→d'=d∧c'=c∧h'=false∧N'=⟨#[]⟩∧E=0∧C=0) :
  Calls Tryz.prog 92 #[.string R,.int .i64 ((a:Int)+1)] w fun e w'=>e=.returned (.tuple #[.agg #[.int .i64 (d':Int),.int .u8 (c':Int),.bool h',.string N'],.int .i64 E,.int .i64 C])∧Below w.heap.size w w':=by
 have ht:=hE.2.1
 have hRs:=size_row hR ht
 have hyb:∀ j,j<t→byt R j=byt s j:=fun j hj=>by rw[hR,byt_extract s 0 t j (by omega),Nat.zero_add]
 have HY:=Lib.hid hyb
 have HEE:=Lib.hid hE
 have HX:Hid (hRest s 2 (a+1,0,0)=(p,d,c)):=hx
 have HCT:=Lib.hid CT
 have HCE:=Lib.hid CE
 obtain ⟨W0,hW0⟩:∃ W0,W0=(w.alloc (.cells #[.int .i64 0,.int .u8 0,.bool false,.string ⟨#[]⟩] 125)).alloc (.cells #[.int .i64 0,.int .u8 0,.bool false,.string ⟨#[]⟩] 125):=⟨_,rfl⟩
 have hbA:Below w.heap.size w W0:=by rw[hW0];exact ((Below.refl _ _).alloc (Nat.le_refl _) _).alloc (by simp) _
 have hx0:W0.heap[w.heap.size+1]?=some (.cells (hdrA 0 0 false []) 125 (0,0)):=by
  have:=heap_alloc_new (w.alloc (.cells #[.int .i64 0,.int .u8 0,.bool false,.string ⟨#[]⟩] 125)) (.cells #[.int .i64 0,.int .u8 0,.bool false,.string ⟨#[]⟩] 125)
  rw[show (w.alloc (.cells #[.int .i64 0,.int .u8 0,.bool false,.string ⟨#[]⟩] 125)).heap.size=w.heap.size+1 by simp] at this
  rw[hW0]
  exact this
 have hy0:W0.heap[w.heap.size]?=some (.cells hdr0 125 (0,0)):=by
  rw[hW0]
  exact (heap_alloc_old _ _ (by simp)).trans (heap_alloc_new w _)
 have hW0s:W0.heap.size=w.heap.size+2:=by rw[hW0];simp
 clear hx hE CT CE hR hyb
 go_enter Tryz.func92,Tryz.ntmps92
 go_wp2
 rw[←hW0]
 go_loopg [14] (t+1) (fun g v14 wr=>∃ (i d1 c1:Nat),v14=.int .i64 (i:Int)∧a+1+i≤t∧t+1≤i+g∧d1<10∧c1<256∧Below w.heap.size w wr∧w.heap.size+2≤wr.heap.size ∧
  wr.heap[w.heap.size+1]?=some (.cells (hdrA d1 c1 false []) 125 (0,0))∧wr.heap[w.heap.size]?=some (.cells hdr0 125 (0,0))∧Hid (i≤2∧hRest s (2-i) (a+1+i,d1,c1)=(p,d,c)∧(i=0→d1=0∧c1=0)∧(i=2→d1≠0∧c1≠0)∧(i=1→d1≠0∨c1≠0)))
 case atStart=>exact ⟨0,0,0,rfl,by omega,by omega,by omega,by omega,hbA,by omega,hx0,hy0,Lib.hid ⟨by omega,HX.out,fun _=>⟨rfl,rfl⟩,fun h=>by omega,fun h=>by omega⟩⟩
 case round=>
  clear hbA hx0 hy0
  obtain ⟨i,d1,c1,rfl,hi1,hig,hd1,hc1,hb,hwz,hxr,hyr,HH⟩:=hrel
  have hcell:∀ j,wr.cell? ⟨w.heap.size+1,j,none⟩=(#[.int .i64 (d1:Int),.int .u8 (c1:Int),.bool false,.string ⟨#[]⟩]:Array Value)[j]?:=fun j=>cell_of_row wr _ j _ _ _ hxr
  have hz:∀ j,wr.frozen? ⟨w.heap.size+1,j,none⟩=false:=fun j=>frozen_of_row wr _ j _ _ hxr
  have e0:wr.cell? ⟨w.heap.size+1,0,none⟩=some (.int .i64 (d1:Int)):=by rw[hcell];rfl
  have e1:wr.cell? ⟨w.heap.size+1,1,none⟩=some (.int .u8 (c1:Int)):=by rw[hcell];rfl
  have z0:=hz 0
  have z1:=hz 1
  have hH:=HH.out
  have XR:=Lib.hid hxr
  have YR:=Lib.hid hyr
  by_cases hlt:a+1+i<t
  ·have hi:=run_byt R (a+1+i) (by omega) ((a:Int)+1+(i:Int)) (by omega)
   have hyeq:=HY.out (a+1+i) hlt
   obtain ⟨y,hy⟩:∃ y,byt R (a+1+i)=y:=⟨_,rfl⟩
   have hyl:y<256:=by rw[←hy];exact byt_lt R _
   rw[hy] at hi hyeq
   have hps:a+1+i<s.size:=by omega
   by_cases hA:d1=0∧49≤y∧y≤57
   ·obtain ⟨rfl,h49,h57⟩:=hA
    have hi2:i≤1:=by
     have:=hH.2.2.2.1
     omega
    have H2:=hH.2.1
    rw[show 2-i=(2-(i+1))+1 by omega,hRest,hStep_dig hps (by omega) (by omega),←hyeq] at H2
    have H3:i=1→c1≠0:=fun h=>by
     have:=hH.2.2.2.2 h
     omega
    have HN:=Lib.hid (show i+1≤2∧hRest s (2-(i+1)) (a+1+(i+1),y-48,c1)=(p,d,c)∧(i+1=0→y-48=0∧c1=0)∧(i+1=2→y-48≠0∧c1≠0)∧(i+1=1→y-48≠0∨c1≠0) from ⟨by omega,H2,fun h=>by omega,fun h=>⟨by omega,H3 (by omega)⟩,fun h=>.inl (by omega)⟩)
    have b5:=hb.setCell (p:=⟨w.heap.size+1,0,none⟩) (by show w.heap.size≤w.heap.size+1;omega) (.int .i64 ((y:Int)-48))
    have x5:=heap_setCell_same wr (w.heap.size+1) 0 _ _ (.int .i64 ((y:Int)-48)) XR.out
    have y5:=(heap_setCell_other wr ⟨w.heap.size+1,0,none⟩ w.heap.size (.int .i64 ((y:Int)-48)) (by show w.heap.size≠w.heap.size+1;omega)).trans YR.out
    have B5:=Lib.hid b5
    have X5:=Lib.hid x5
    have Y5:=Lib.hid y5
    have ey:((y-48:Nat):Int)=(y:Int)-48:=by omega
    have EY:=Lib.hid ey
    clear hH H2 H3 hy hyeq hcell hz hxr hyr hb b5 x5 y5 ey HH
    go_wp2
    go_roundg (gk-1)
    case rel=>exact ⟨i+1,y-48,c1,by go_num,by omega,by omega,by omega,by omega,B5.out,by simp[World.setCell];omega,by unfold hdrA;rw[EY.out];exact X5.out,Y5.out,HN.out⟩
    case measure=>omega
   by_cases hC:c1=0∧(y=43∨y=45)
   ·obtain ⟨rfl,hy2⟩:=hC
    have hi2:i≤1:=by
     have:=hH.2.2.2.1
     omega
    have H2:=hH.2.1
    rw[show 2-i=(2-(i+1))+1 by omega,hRest,hStep_sgn hps (by omega),←hyeq] at H2
    have H3:i=1→d1≠0:=fun h=>by
     have:=hH.2.2.2.2 h
     omega
    have HN:=Lib.hid (show i+1≤2∧hRest s (2-(i+1)) (a+1+(i+1),d1,y)=(p,d,c)∧(i+1=0→d1=0∧y=0)∧(i+1=2→d1≠0∧y≠0)∧(i+1=1→d1≠0∨y≠0) from ⟨by omega,H2,fun h=>by omega,fun h=>⟨H3 (by omega),by omega⟩,fun h=>.inr (by omega)⟩)
    have b5:=hb.setCell (p:=⟨w.heap.size+1,1,none⟩) (by show w.heap.size≤w.heap.size+1;omega) (.int .u8 (y:Int))
    have x5:=heap_setCell_same wr (w.heap.size+1) 1 _ _ (.int .u8 (y:Int)) XR.out
    have y5:=(heap_setCell_other wr ⟨w.heap.size+1,1,none⟩ w.heap.size (.int .u8 (y:Int)) (by show w.heap.size≠w.heap.size+1;omega)).trans YR.out
    have B5:=Lib.hid b5
    have X5:=Lib.hid x5
    have Y5:=Lib.hid y5
    clear hH H2 H3 hy hyeq hcell hz hxr hyr hb b5 x5 y5 HH hA
    by_cases hd0:d1=0
    ·subst hd0
     rcases hy2 with rfl|rfl
     ·skip
      go_wp2
      go_roundg (gk-1)
      case rel=>exact ⟨i+1,0,43,by go_num,by omega,by omega,by omega,by omega,B5.out,by simp[World.setCell];omega,X5.out,Y5.out,Lib.hid ⟨HN.out.1,HN.out.2.1,fun h=>absurd h (Nat.succ_ne_zero _),HN.out.2.2.2.1,HN.out.2.2.2.2⟩⟩
      case measure=>omega
     ·skip
      go_wp2
      go_roundg (gk-1)
      case rel=>exact ⟨i+1,0,45,by go_num,by omega,by omega,by omega,by omega,B5.out,by simp[World.setCell];omega,X5.out,Y5.out,Lib.hid ⟨HN.out.1,HN.out.2.1,fun h=>absurd h (Nat.succ_ne_zero _),HN.out.2.2.2.1,HN.out.2.2.2.2⟩⟩
      case measure=>omega
    ·have hd0b:((d1:Int)==0)=false:=by simp;omega
     rcases hy2 with rfl|rfl
     ·skip
      go_wp2
      go_roundg (gk-1)
      case rel=>exact ⟨i+1,d1,43,by go_num,by omega,by omega,by omega,by omega,B5.out,by simp[World.setCell];omega,X5.out,Y5.out,Lib.hid ⟨HN.out.1,HN.out.2.1,fun h=>absurd h (Nat.succ_ne_zero _),HN.out.2.2.2.1,HN.out.2.2.2.2⟩⟩
      case measure=>omega
     ·skip
      go_wp2
      go_roundg (gk-1)
      case rel=>exact ⟨i+1,d1,45,by go_num,by omega,by omega,by omega,by omega,B5.out,by simp[World.setCell];omega,X5.out,Y5.out,Lib.hid ⟨HN.out.1,HN.out.2.1,fun h=>absurd h (Nat.succ_ne_zero _),HN.out.2.2.2.1,HN.out.2.2.2.2⟩⟩
      case measure=>omega
   have hfix:hStep s (a+1+i,d1,c1)=(a+1+i,d1,c1):=hStep_none (by rw[←hyeq];exact hA) (by rw[←hyeq];exact hC)
   have H2:=hH.2.1
   rw[hRest_fix hfix] at H2
   simp only[Prod.mk.injEq] at H2
   have CT2:=HCT.out (by omega)
   rw[←H2.1,←H2.2.1,←H2.2.2,show ((a+1+i:Nat):Int)=(a:Int)+1+(i:Int) by omega] at CT2
   clear H2 hfix hH hyeq hy HH HX HCT HCE
   by_cases hd0:d1=0
   ·subst hd0
    by_cases hy49:y<49
    ·have y49:decide (49≤y)=false:=decide_eq_false (by omega)
     have y49i:decide ((49:Int)≤(y:Int))=false:=decide_eq_false (by omega)
     by_cases hc0:c1=0
     ·subst hc0
      have y43:((y:Int)==43)=false:=by simp;omega
      have y45:((y:Int)==45)=false:=by simp;omega
      clear hA hC e0 z0 z1 hz hxr hyr
      go_wp2_with fail
      refine (CT2 _).mono ?_
      rintro e w1 ⟨rfl,hb1⟩
      have y5:w1.heap[w.heap.size]?=some (.cells hdr0 125 (0,0)):=(hb1.block _ (by omega)).trans YR.out
      have b5:Below w.heap.size w w1:=hb.trans (hb1.mono (by omega))
      have hcz:∀ j,(w1.setRow w.heap.size #[.int .i64 (d':Int),.int .u8 (c':Int),.bool h',.string N']).cell? ⟨w.heap.size,j,none⟩=(#[.int .i64 (d':Int),.int .u8 (c':Int),.bool h',.string N']:Array Value)[j]?:=fun j=>cell_of_row _ _ j _ _ _ (setRow_heap w1 w.heap.size hdr0 _ _ _ y5)
      have hbr:Below w.heap.size w (w1.setRow w.heap.size #[.int .i64 (d':Int),.int .u8 (c':Int),.bool h',.string N']):=b5.trans ⟨rfl,rfl,rfl,by simp[World.setRow],fun k hk=>setRow_other w1 _ k _ (by omega)⟩
      go_wp2_with (refine wpList_store_row rfl 125 _ _ rfl w.heap.size #[.int .i64 (d':Int),.int .u8 (c':Int),.bool h',.string N'] rfl rfl 125 hdr0 y5 (by kernel_rfl) rfl (by kernel_rfl) ?_)
      obtain ⟨W6,hW6⟩:∃ W6,W6=w1.setRow w.heap.size #[.int .i64 (d':Int),.int .u8 (c':Int),.bool h',.string N']:=⟨_,rfl⟩
      rw[←hW6] at hcz hbr ⊢
      clear hW6
      refine bodyPost_ret (v:=.tuple #[.agg #[.int .i64 (d':Int),.int .u8 (c':Int),.bool h',.string N'],.int .i64 E,.int .i64 C]) (by simp[results,Tryz.results92,go_sem,hcz]) rfl ?_
      exact ⟨rfl,hbr⟩
     ·have hc0b:((c1:Int)==0)=false:=by simp;omega
      clear hA hC e0 z0 z1 hz hxr hyr
      go_wp2_with fail
      refine (CT2 _).mono ?_
      rintro e w1 ⟨rfl,hb1⟩
      have y5:w1.heap[w.heap.size]?=some (.cells hdr0 125 (0,0)):=(hb1.block _ (by omega)).trans YR.out
      have b5:Below w.heap.size w w1:=hb.trans (hb1.mono (by omega))
      have hcz:∀ j,(w1.setRow w.heap.size #[.int .i64 (d':Int),.int .u8 (c':Int),.bool h',.string N']).cell? ⟨w.heap.size,j,none⟩=(#[.int .i64 (d':Int),.int .u8 (c':Int),.bool h',.string N']:Array Value)[j]?:=fun j=>cell_of_row _ _ j _ _ _ (setRow_heap w1 w.heap.size hdr0 _ _ _ y5)
      have hbr:Below w.heap.size w (w1.setRow w.heap.size #[.int .i64 (d':Int),.int .u8 (c':Int),.bool h',.string N']):=b5.trans ⟨rfl,rfl,rfl,by simp[World.setRow],fun k hk=>setRow_other w1 _ k _ (by omega)⟩
      go_wp2_with (refine wpList_store_row rfl 125 _ _ rfl w.heap.size #[.int .i64 (d':Int),.int .u8 (c':Int),.bool h',.string N'] rfl rfl 125 hdr0 y5 (by kernel_rfl) rfl (by kernel_rfl) ?_)
      obtain ⟨W6,hW6⟩:∃ W6,W6=w1.setRow w.heap.size #[.int .i64 (d':Int),.int .u8 (c':Int),.bool h',.string N']:=⟨_,rfl⟩
      rw[←hW6] at hcz hbr ⊢
      clear hW6
      refine bodyPost_ret (v:=.tuple #[.agg #[.int .i64 (d':Int),.int .u8 (c':Int),.bool h',.string N'],.int .i64 E,.int .i64 C]) (by simp[results,Tryz.results92,go_sem,hcz]) rfl ?_
      exact ⟨rfl,hbr⟩
    ·have y49:decide (49≤y)=true:=decide_eq_true (by omega)
     have y49i:decide ((49:Int)≤(y:Int))=true:=decide_eq_true (by omega)
     have y57:decide (y≤57)=false:=decide_eq_false (by omega)
     have y57i:decide ((y:Int)≤57)=false:=decide_eq_false (by omega)
     by_cases hc0:c1=0
     ·subst hc0
      have y43:((y:Int)==43)=false:=by simp;omega
      have y45:((y:Int)==45)=false:=by simp;omega
      clear hA hC e0 z0 z1 hz hxr hyr
      go_wp2_with fail
      refine (CT2 _).mono ?_
      rintro e w1 ⟨rfl,hb1⟩
      have y5:w1.heap[w.heap.size]?=some (.cells hdr0 125 (0,0)):=(hb1.block _ (by omega)).trans YR.out
      have b5:Below w.heap.size w w1:=hb.trans (hb1.mono (by omega))
      have hcz:∀ j,(w1.setRow w.heap.size #[.int .i64 (d':Int),.int .u8 (c':Int),.bool h',.string N']).cell? ⟨w.heap.size,j,none⟩=(#[.int .i64 (d':Int),.int .u8 (c':Int),.bool h',.string N']:Array Value)[j]?:=fun j=>cell_of_row _ _ j _ _ _ (setRow_heap w1 w.heap.size hdr0 _ _ _ y5)
      have hbr:Below w.heap.size w (w1.setRow w.heap.size #[.int .i64 (d':Int),.int .u8 (c':Int),.bool h',.string N']):=b5.trans ⟨rfl,rfl,rfl,by simp[World.setRow],fun k hk=>setRow_other w1 _ k _ (by omega)⟩
      go_wp2_with (refine wpList_store_row rfl 125 _ _ rfl w.heap.size #[.int .i64 (d':Int),.int .u8 (c':Int),.bool h',.string N'] rfl rfl 125 hdr0 y5 (by kernel_rfl) rfl (by kernel_rfl) ?_)
      obtain ⟨W6,hW6⟩:∃ W6,W6=w1.setRow w.heap.size #[.int .i64 (d':Int),.int .u8 (c':Int),.bool h',.string N']:=⟨_,rfl⟩
      rw[←hW6] at hcz hbr ⊢
      clear hW6
      refine bodyPost_ret (v:=.tuple #[.agg #[.int .i64 (d':Int),.int .u8 (c':Int),.bool h',.string N'],.int .i64 E,.int .i64 C]) (by simp[results,Tryz.results92,go_sem,hcz]) rfl ?_
      exact ⟨rfl,hbr⟩
     ·have hc0b:((c1:Int)==0)=false:=by simp;omega
      clear hA hC e0 z0 z1 hz hxr hyr
      go_wp2_with fail
      refine (CT2 _).mono ?_
      rintro e w1 ⟨rfl,hb1⟩
      have y5:w1.heap[w.heap.size]?=some (.cells hdr0 125 (0,0)):=(hb1.block _ (by omega)).trans YR.out
      have b5:Below w.heap.size w w1:=hb.trans (hb1.mono (by omega))
      have hcz:∀ j,(w1.setRow w.heap.size #[.int .i64 (d':Int),.int .u8 (c':Int),.bool h',.string N']).cell? ⟨w.heap.size,j,none⟩=(#[.int .i64 (d':Int),.int .u8 (c':Int),.bool h',.string N']:Array Value)[j]?:=fun j=>cell_of_row _ _ j _ _ _ (setRow_heap w1 w.heap.size hdr0 _ _ _ y5)
      have hbr:Below w.heap.size w (w1.setRow w.heap.size #[.int .i64 (d':Int),.int .u8 (c':Int),.bool h',.string N']):=b5.trans ⟨rfl,rfl,rfl,by simp[World.setRow],fun k hk=>setRow_other w1 _ k _ (by omega)⟩
      go_wp2_with (refine wpList_store_row rfl 125 _ _ rfl w.heap.size #[.int .i64 (d':Int),.int .u8 (c':Int),.bool h',.string N'] rfl rfl 125 hdr0 y5 (by kernel_rfl) rfl (by kernel_rfl) ?_)
      obtain ⟨W6,hW6⟩:∃ W6,W6=w1.setRow w.heap.size #[.int .i64 (d':Int),.int .u8 (c':Int),.bool h',.string N']:=⟨_,rfl⟩
      rw[←hW6] at hcz hbr ⊢
      clear hW6
      refine bodyPost_ret (v:=.tuple #[.agg #[.int .i64 (d':Int),.int .u8 (c':Int),.bool h',.string N'],.int .i64 E,.int .i64 C]) (by simp[results,Tryz.results92,go_sem,hcz]) rfl ?_
      exact ⟨rfl,hbr⟩
   ·have hd0b:((d1:Int)==0)=false:=by simp;omega
    by_cases hc0:c1=0
    ·subst hc0
     have y43:((y:Int)==43)=false:=by simp;omega
     have y45:((y:Int)==45)=false:=by simp;omega
     clear hA hC e0 z0 z1 hz hxr hyr
     go_wp2_with fail
     refine (CT2 _).mono ?_
     rintro e w1 ⟨rfl,hb1⟩
     have y5:w1.heap[w.heap.size]?=some (.cells hdr0 125 (0,0)):=(hb1.block _ (by omega)).trans YR.out
     have b5:Below w.heap.size w w1:=hb.trans (hb1.mono (by omega))
     have hcz:∀ j,(w1.setRow w.heap.size #[.int .i64 (d':Int),.int .u8 (c':Int),.bool h',.string N']).cell? ⟨w.heap.size,j,none⟩=(#[.int .i64 (d':Int),.int .u8 (c':Int),.bool h',.string N']:Array Value)[j]?:=fun j=>cell_of_row _ _ j _ _ _ (setRow_heap w1 w.heap.size hdr0 _ _ _ y5)
     have hbr:Below w.heap.size w (w1.setRow w.heap.size #[.int .i64 (d':Int),.int .u8 (c':Int),.bool h',.string N']):=b5.trans ⟨rfl,rfl,rfl,by simp[World.setRow],fun k hk=>setRow_other w1 _ k _ (by omega)⟩
     go_wp2_with (refine wpList_store_row rfl 125 _ _ rfl w.heap.size #[.int .i64 (d':Int),.int .u8 (c':Int),.bool h',.string N'] rfl rfl 125 hdr0 y5 (by kernel_rfl) rfl (by kernel_rfl) ?_)
     obtain ⟨W6,hW6⟩:∃ W6,W6=w1.setRow w.heap.size #[.int .i64 (d':Int),.int .u8 (c':Int),.bool h',.string N']:=⟨_,rfl⟩
     rw[←hW6] at hcz hbr ⊢
     clear hW6
     refine bodyPost_ret (v:=.tuple #[.agg #[.int .i64 (d':Int),.int .u8 (c':Int),.bool h',.string N'],.int .i64 E,.int .i64 C]) (by simp[results,Tryz.results92,go_sem,hcz]) rfl ?_
     exact ⟨rfl,hbr⟩
    ·have hc0b:((c1:Int)==0)=false:=by simp;omega
     clear hA hC e0 z0 z1 hz hxr hyr
     go_wp2_with fail
     refine (CT2 _).mono ?_
     rintro e w1 ⟨rfl,hb1⟩
     have y5:w1.heap[w.heap.size]?=some (.cells hdr0 125 (0,0)):=(hb1.block _ (by omega)).trans YR.out
     have b5:Below w.heap.size w w1:=hb.trans (hb1.mono (by omega))
     have hcz:∀ j,(w1.setRow w.heap.size #[.int .i64 (d':Int),.int .u8 (c':Int),.bool h',.string N']).cell? ⟨w.heap.size,j,none⟩=(#[.int .i64 (d':Int),.int .u8 (c':Int),.bool h',.string N']:Array Value)[j]?:=fun j=>cell_of_row _ _ j _ _ _ (setRow_heap w1 w.heap.size hdr0 _ _ _ y5)
     have hbr:Below w.heap.size w (w1.setRow w.heap.size #[.int .i64 (d':Int),.int .u8 (c':Int),.bool h',.string N']):=b5.trans ⟨rfl,rfl,rfl,by simp[World.setRow],fun k hk=>setRow_other w1 _ k _ (by omega)⟩
     go_wp2_with (refine wpList_store_row rfl 125 _ _ rfl w.heap.size #[.int .i64 (d':Int),.int .u8 (c':Int),.bool h',.string N'] rfl rfl 125 hdr0 y5 (by kernel_rfl) rfl (by kernel_rfl) ?_)
     obtain ⟨W6,hW6⟩:∃ W6,W6=w1.setRow w.heap.size #[.int .i64 (d':Int),.int .u8 (c':Int),.bool h',.string N']:=⟨_,rfl⟩
     rw[←hW6] at hcz hbr ⊢
     clear hW6
     refine bodyPost_ret (v:=.tuple #[.agg #[.int .i64 (d':Int),.int .u8 (c':Int),.bool h',.string N'],.int .i64 E,.int .i64 C]) (by simp[results,Tryz.results92,go_sem,hcz]) rfl ?_
     exact ⟨rfl,hbr⟩
  ·have hfix:hStep s (a+1+i,d1,c1)=(a+1+i,d1,c1):=by
    rw[show a+1+i=t by omega]
    exact hStep_end HEE.out
   have H2:=hH.2.1
   rw[hRest_fix hfix] at H2
   simp only[Prod.mk.injEq] at H2
   obtain ⟨k1,k2,k3,k4,k5,k6⟩:=HCE.out (by omega)
   rw[←H2.2.1] at k1
   rw[←H2.2.2] at k2
   subst k1 k2 k3 k4 k5 k6
   clear H2 hfix hH HH HX HCT HCE hcell hz e0 e1 z0 z1
   have hcx:∀ j,wr.cell? ⟨w.heap.size+1,j,none⟩=(#[.int .i64 (d':Int),.int .u8 (c':Int),.bool false,.string ⟨#[]⟩]:Array Value)[j]?:=fun j=>cell_of_row wr _ j _ _ _ XR.out
   have y5:=YR.out
   have hcz:∀ j,(wr.setRow w.heap.size #[.int .i64 (d':Int),.int .u8 (c':Int),.bool false,.string ⟨#[]⟩]).cell? ⟨w.heap.size,j,none⟩=(#[.int .i64 (d':Int),.int .u8 (c':Int),.bool false,.string ⟨#[]⟩]:Array Value)[j]?:=fun j=>cell_of_row _ _ j _ _ _ (setRow_heap wr w.heap.size hdr0 _ _ _ y5)
   have hbr:Below w.heap.size w (wr.setRow w.heap.size #[.int .i64 (d':Int),.int .u8 (c':Int),.bool false,.string ⟨#[]⟩]):=hb.trans ⟨rfl,rfl,rfl,by simp[World.setRow],fun k hk=>setRow_other wr _ k _ (by omega)⟩
   go_wp2_with (refine wpList_store_row rfl 125 _ _ rfl w.heap.size #[.int .i64 (d':Int),.int .u8 (c':Int),.bool false,.string ⟨#[]⟩] rfl rfl 125 hdr0 y5 (by kernel_rfl) rfl (by kernel_rfl) ?_)
   obtain ⟨W6,hW6⟩:∃ W6,W6=wr.setRow w.heap.size #[.int .i64 (d':Int),.int .u8 (c':Int),.bool false,.string ⟨#[]⟩]:=⟨_,rfl⟩
   rw[←hW6] at hcz hbr ⊢
   clear hW6
   refine bodyPost_ret (v:=.tuple #[.agg #[.int .i64 (d':Int),.int .u8 (c':Int),.bool false,.string ⟨#[]⟩],.int .i64 0,.int .i64 0]) (by simp[results,Tryz.results92,go_sem,hcz]) rfl ?_
   exact ⟨rfl,hbr⟩
end Go.Proofs.YthcmkpiajkbpnaaGreatDoor
namespace Go.Proofs.YthcmkpiajkbpnaaGreatDoor
open Go.RowKit
set_option maxHeartbeats 800000 in
theorem blocMarked_is (m:Bool) (a b f:Nat) (s:ByteArray) (at':Int) (w:World) (hs:s.size≤1099511627776) (hB:RowB s (clampN at' s.size) a) (hE:RowE s (clampN at' s.size) b) (hF:FirN s a b f) (hm:decide (kindN s a b f=3∨kindN s a b f=4)=m) :
  Calls Tryz.prog 141 #[.string s,.int .i64 at'] w fun e w'=>e=.returned (.bool m)∧w=w':=by
 obtain ⟨k,hk⟩:∃ k,kindN s a b f=k:=⟨_,rfl⟩
 have CK:=fun W=>rowsKind_is k a b f s at' W hs hB hE hF hk
 rw[hk] at hm
 clear hk hB hE hF
 cases g3:(k==3) with
 | true=>
  have hm2:m=true:=by
   have h3:k=3:=by simpa using g3
   rw[←hm,h3]
   rfl
  subst hm2
  clear hm
  go_enter Tryz.func141,Tryz.ntmps141
  go_wp2_with fail
  refine (CK _).mono ?_
  rintro e w1 ⟨rfl,rfl⟩
  go_wp2
  go_ret
  exact ⟨rfl,rfl⟩
 | false=>
  have h3:k≠3:=by simpa using g3
  cases g4:(k==4) with
  | true=>
   have hm2:m=true:=by
    have h4:k=4:=by simpa using g4
    rw[←hm,h4]
    rfl
   subst hm2
   clear hm h3
   go_enter Tryz.func141,Tryz.ntmps141
   go_wp2_with fail
   refine (CK _).mono ?_
   rintro e w1 ⟨rfl,rfl⟩
   go_wp2
   go_ret
   exact ⟨rfl,rfl⟩
  | false=>
   have h4:k≠4:=by simpa using g4
   have hm2:m=false:=by
    rw[←hm]
    exact decide_eq_false (fun h=>h.elim h3 h4)
   subst hm2
   clear hm h3 h4
   go_enter Tryz.func141,Tryz.ntmps141
   go_wp2_with fail
   refine (CK _).mono ?_
   rintro e w1 ⟨rfl,rfl⟩
   go_wp2
   go_ret
   exact ⟨rfl,rfl⟩
theorem width_digit (d x0:Nat) (s:ByteArray) (from':Nat) (n:Int) (w:World) (hs:s.size≤1099511627776) (hd:0<d) (hd9:d≤9) (hx:d+min (max n 0).toNat (s.size+1)=x0) :
  Calls Tryz.prog 93 #[.string s,.int .i64 (from':Int),.int .i64 n,.int .i64 (d:Int)] w fun e w'=>e=.returned (.tuple #[.int .i64 (x0:Int),.int .i64 0,.int .i64 0])∧Below w.heap.size w w':=by
 have hx0i:(d:Int)+min (max n 0) ((s.size:Int)+1)=(x0:Int):=by omega
 have hx0l:x0≤s.size+10:=by omega
 have HX:=Lib.hid hx
 clear hx
 go_enter Tryz.func93,Tryz.ntmps93
 go_wp2
 refine bodyPost_ret (results_tmp3 rfl _ _ _) rfl ?_
 exact ⟨rfl,Below.refl _ _⟩
theorem width_all (s:ByteArray) (p q:Nat) (n:Int) (w:World) (hs:s.size≤1099511627776) (hp:p≤s.size) (hq:FilN s p q)
  (h:q=s.size∨(q<s.size∧∃ a b f i,RowB s q a∧RowB s a a∧RowE s q b∧FirN s a b f∧a+i=q∧((i:Int)≤n∨kindN s a b f=3∨kindN s a b f=4))) :
  Calls Tryz.prog 93 #[.string s,.int .i64 (p:Int),.int .i64 n,.int .i64 0] w fun e w'=>e=.returned (.tuple #[.int .i64 (s.size:Int),.int .i64 0,.int .i64 0])∧Below w.heap.size w w':=by
 have hq1:=hq.1
 have hq2:=hq.2.1
 obtain ⟨Z,hZ⟩:∃ Z:ByteArray,(⟨(pieceL s q s.size).toArray⟩:ByteArray)=Z:=⟨_,rfl⟩
 have hZs:Z.size=s.size-q:=by rw[←hZ,size_mk,piece_len (Nat.le_refl _)]
 have CT:=fun W=>fillTrimL Z (s.extract p s.size) W (by rw[piece_ext,mkl_data,fill_piece hq1 hq2 hq.2.2.1 hq.2.2.2];exact hZ)
 have hsub:(s.size:Int)-(Z.size:Int)=(q:Int):=by omega
 have hcl:=clampN_self q s.size hq2
 obtain ⟨a,hB⟩:=RowB.ex s q
 have hB1:=hB.1
 have CC:=fun W=>Col_is a q s (q:Int) W hs hcl hB
 have HZ:=Lib.hid hZs
 clear hZ hq hZs
 rcases h with rfl|⟨hqs,a2,b,f,i,hB2,hBa,hE,hF,hai,hc⟩
 ·clear hB hcl
  go_enter Tryz.func93,Tryz.ntmps93
  go_wp2_with fail
  refine (CT _).mono ?_
  rintro e w1 ⟨rfl,hb1⟩
  go_wp2_with fail
  refine (CC _).mono ?_
  rintro e w2 ⟨rfl,rfl⟩
  go_wp2
  refine bodyPost_ret (results_tmp3 rfl _ _ _) rfl ?_
  exact ⟨rfl,hb1⟩
 ·obtain rfl:=hB.uniq hB2
  have hqb:((q:Int)==(s.size:Int))=false:=by simp;omega
  have hai2:(q:Int)-(a:Int)=(i:Int):=by omega
  by_cases hin:(i:Int)≤n
  ·have hinb:decide ((i:Int)≤n)=true:=decide_eq_true hin
   clear hB hcl hc hE hF hBa hB2
   go_enter Tryz.func93,Tryz.ntmps93
   go_wp2_with fail
   refine (CT _).mono ?_
   rintro e w1 ⟨rfl,hb1⟩
   go_wp2_with fail
   refine (CC _).mono ?_
   rintro e w2 ⟨rfl,rfl⟩
   go_wp2
   refine bodyPost_ret (results_tmp3 rfl _ _ _) rfl ?_
   exact ⟨rfl,hb1⟩
  ·have hinb:decide ((i:Int)≤n)=false:=decide_eq_false hin
   have CM:=fun W=>blocMarked_is true a b f s (q:Int) W hs (by rw[hcl];exact hB) (by rw[hcl];exact hE) hF (decide_eq_true (hc.resolve_left hin))
   clear hB hcl hc hE hF hBa hB2
   go_enter Tryz.func93,Tryz.ntmps93
   go_wp2_with fail
   refine (CT _).mono ?_
   rintro e w1 ⟨rfl,hb1⟩
   go_wp2_with fail
   refine (CC _).mono ?_
   rintro e w2 ⟨rfl,rfl⟩
   go_wp2_with fail
   refine (CM _).mono ?_
   rintro e w2 ⟨rfl,rfl⟩
   go_wp2
   refine bodyPost_ret (results_tmp3 rfl _ _ _) rfl ?_
   exact ⟨rfl,hb1⟩
theorem width_row (W0:Nat) (E C:Int) (x:Option Nat) (s:ByteArray) (p q a b f i:Nat) (n:Int) (w:World) (hs:s.size≤1099511627776) (_hp:p≤a) (hq:FilN s p q) (hqs:q<s.size) (hB:RowB s q a) (hE:RowE s q b) (hF:FirN s a b f) (hai:a+i=q)
  (hin:n<(i:Int)) (h3:kindN s a b f≠3) (h4:kindN s a b f≠4) (hx:FarZ s i a p x) (ho:(x=none∧W0=i∧E=0∧C=0)∨(∃ y:Nat,x=some y∧W0=0∧E=(y:Int)∧C=5)) :
  Calls Tryz.prog 93 #[.string s,.int .i64 (p:Int),.int .i64 n,.int .i64 0] w fun e w'=>e=.returned (.tuple #[.int .i64 (W0:Int),.int .i64 E,.int .i64 C])∧Below w.heap.size w w':=by
 have hq1:=hq.1
 have hq2:=hq.2.1
 obtain ⟨Z,hZ⟩:∃ Z:ByteArray,(⟨(pieceL s q s.size).toArray⟩:ByteArray)=Z:=⟨_,rfl⟩
 have hZs:Z.size=s.size-q:=by rw[←hZ,size_mk,piece_len (Nat.le_refl _)]
 have CT:=fun W=>fillTrimL Z (s.extract p s.size) W (by rw[piece_ext,mkl_data,fill_piece hq1 hq2 hq.2.2.1 hq.2.2.2];exact hZ)
 have hsub:(s.size:Int)-(Z.size:Int)=(q:Int):=by omega
 have hcl:=clampN_self q s.size hq2
 have hB1:=hB.1
 have CC:=fun W=>Col_is a q s (q:Int) W hs hcl hB
 have hqb:((q:Int)==(s.size:Int))=false:=by simp;omega
 have hai2:(q:Int)-(a:Int)=(i:Int):=by omega
 have hai3:(q:Int)-(i:Int)=(a:Int):=by omega
 have hinb:decide ((i:Int)≤n)=false:=decide_eq_false (by omega)
 have CM:=fun W=>blocMarked_is false a b f s (q:Int) W hs (by rw[hcl];exact hB) (by rw[hcl];exact hE) hF (decide_eq_false (fun h=>h.elim h3 h4))
 have HX:=Lib.hid hx
 have HO:=Lib.hid ho
 have HAI:=Lib.hid hai
 clear hZ hq hZs hB hcl hE hF hx ho h3 h4 hai
 go_enter Tryz.func93,Tryz.ntmps93
 go_wp2_with fail
 refine (CT _).mono ?_
 rintro e w1 ⟨rfl,hb1⟩
 go_wp2_with fail
 refine (CC _).mono ?_
 rintro e w2 ⟨rfl,rfl⟩
 go_wp2_with fail
 refine (CM _).mono ?_
 rintro e w2 ⟨rfl,rfl⟩
 go_wp2_with fail
 go_loop [13] (fun v13=>∃ k:Nat,v13=.int .i64 (k:Int)∧k≤s.size+1∧Hid (FarZ s i a k x)) (fun v13=>s.size+1-(intOf v13).toNat)
 case atStart=>exact ⟨p,rfl,by omega,HX.out⟩
 case round=>
  obtain ⟨k,rfl,hks,HK⟩:=hrel
  have hk:=HK.out
  by_cases hka:k<a
  ·obtain ⟨r0,hr0⟩:=RowB.ex s k
   obtain ⟨b2,hE2⟩:=RowE.ex s k (by omega)
   have hb1':=hE2.1
   have hb2':=hE2.2.1
   have hck:=clampN_self k s.size (by omega)
   have CR:=fun W=>Row_is r0 b2 s (k:Int) W hs (by rw[hck];exact hr0) (by rw[hck];exact hE2)
   by_cases hfar:i<b2-k
   ·have hxo:x=some (k+i):=by
     cases hk with
     | over e=>omega
     | far _ k2 _=>rfl
     | next _ k2 k3 _=>obtain rfl:=hE2.uniq k2;omega
    have hW:W0=0∧E=((k+i:Nat):Int)∧C=5:=by
     rcases HO.out with ⟨e,_⟩|⟨y,e,e2,e3,e4⟩
     ·rw[e] at hxo;cases hxo
     ·rw[e] at hxo
      cases hxo
      exact ⟨e2,e3,e4⟩
    obtain ⟨rfl,rfl,rfl⟩:=hW
    have hfd:decide ((i:Int)<(b2:Int)-(k:Int))=true:=decide_eq_true (by omega)
    clear hk hxo hr0 hE2 hck HK HX HO
    go_wp2_with fail
    refine (CR _).mono ?_
    rintro e w3 ⟨rfl,rfl⟩
    go_wp2
    refine bodyPost_ret (results_tmp3 rfl _ _ _) rfl ?_
    exact ⟨by simp,hb1⟩
   ·have hn:FarZ s i a (b2+1) x:=by
     cases hk with
     | over e=>omega
     | far _ k2 k3=>obtain rfl:=hE2.uniq k2;omega
     | next _ k2 _ k3=>obtain rfl:=hE2.uniq k2;exact k3
    have HN:=Lib.hid hn
    have hfd:decide ((i:Int)<(b2:Int)-(k:Int))=false:=decide_eq_false (by omega)
    clear hk hn hr0 hE2 hck HK HX HO
    go_wp2_with fail
    refine (CR _).mono ?_
    rintro e w3 ⟨rfl,rfl⟩
    go_wp2
    go_round
    case rel=>exact ⟨b2+1,by go_num,by omega,HN.out⟩
    case measure=>simp[intOf];omega
  ·have hxo:x=none:=by
    cases hk with
    | over e=>rfl
    | far e=>omega
    | next e=>omega
   have hW:W0=i∧E=0∧C=0:=by
    rcases HO.out with ⟨_,e⟩|⟨y,e,_⟩
    ·exact e
    ·rw[e] at hxo;cases hxo
   obtain ⟨rfl,rfl,rfl⟩:=hW
   clear hk hxo HK HX HO
   go_wp2
   refine bodyPost_ret (results_tmp3 rfl _ _ _) rfl ?_
   exact ⟨rfl,hb1⟩
end Go.Proofs.YthcmkpiajkbpnaaGreatDoor
namespace Go.Proofs.YthcmkpiajkbpnaaGreatDoor
open Go.RowKit
theorem hStep_sign {s:ByteArray} {x:Nat × Nat × Nat} (h:x.2.2=0∨x.2.2=43∨x.2.2=45):(hStep s x).2.2=0∨(hStep s x).2.2=43∨(hStep s x).2.2=45:=by
 unfold hStep
 split
 ·split
  ·exact h
  ·split
   ·rename_i h2
    rcases h2.2 with e|e
    ·exact .inr (.inl e)
    ·exact .inr (.inr e)
   ·exact h
 ·exact h
theorem hdr_sign (s:ByteArray) (a:Nat):(hdr s a).2.2=0∨(hdr s a).2.2=43∨(hdr s a).2.2=45:=hStep_sign (hStep_sign (.inl rfl))
theorem hStep_dig9 {s:ByteArray} {x:Nat × Nat × Nat} (h:x.2.1≤9):(hStep s x).2.1≤9:=by
 unfold hStep
 split
 ·split
  ·rename_i h2
   show byt s x.1-48≤9
   omega
  ·split
   ·exact h
   ·exact h
 ·exact h
theorem hdr_dig (s:ByteArray) (a:Nat):(hdr s a).2.1≤9:=hStep_dig9 (hStep_dig9 (Nat.zero_le _))
def nodeC (st at':Int) (h:Bool) (note T:ByteArray):Array Value:=#[.int .i64 1,.int .i64 st,.int .i64 at',.int .i64 0,.string ⟨#[]⟩,.string ⟨#[]⟩,.string T,.slice none 0 0,.slice none 0 0,.slice none 0 0,.bool h,.string note]
def zeroC:Array Value:=#[.int .i64 0,.int .i64 0,.int .i64 0,.int .i64 0,.string ⟨#[]⟩,.string ⟨#[]⟩,.string ⟨#[]⟩,.slice none 0 0,.slice none 0 0,.slice none 0 0,.bool false,.string ⟨#[]⟩]
theorem blkGo_len:∀ (t:List (List UInt8)) (last:List UInt8) (n:Nat),(U.blkGo last n t).length≤n+U.tot t
 | [],last,n=>by
  rw[U.blkGo_nil,U.feeds_length]
  split <;> simp[U.tot]
 | r :: t,last,n=>by
  by_cases h:r=[]
  ·subst h
   rw[U.blkGo_blank]
   have:=blkGo_len t last (n+1)
   simp only[U.tot,List.length_nil]
   omega
  ·rw[U.blkGo_row last n t h]
   have:=blkGo_len t r 0
   have h3:=U.bsep_length last r n
   simp only[U.tot,List.length_append]
   omega
theorem joinGo_len:∀ t:List (List UInt8),(U.joinGo t).length≤U.tot t
 | []=>Nat.zero_le _
 | r :: t=>by
  have:=joinGo_len t
  show (10 :: (r++U.joinGo t)).length≤_
  simp only[U.tot,List.length_append,List.length_cons]
  omega
theorem blockT_len (q:Bool) (l:List (List UInt8)):(U.blockT q l).length≤U.tot l:=by
 unfold U.blockT
 split
 ·have:=blkGo_len l [] 0
  unfold U.blkT
  omega
 ·cases l with
  | nil=>exact Nat.zero_le _
  | cons r t=>
   have:=joinGo_len t
   show (r++U.joinGo t).length≤_
   simp only[U.tot,List.length_append]
   omega
theorem tot_take:∀ (l:List (List UInt8)) (n:Nat),U.tot (l.take n)≤U.tot l
 | [],n=>by rw[List.take_nil];exact Nat.le_refl _
 | r :: t,0=>Nat.zero_le _
 | r :: t,n+1=>by
  have:=tot_take t n
  simp only[List.take_succ_cons,U.tot]
  omega
theorem elemT:Tryz.prog.elem 37=9:=by kernel_rfl
theorem OutT.head {B:Nat} {w:World} {v:Value} {ls:List (List UInt8)} (h:OutT B w v ls) (L:Nat) (hL:L≤ls.length):∃ V,(∀ W,(Instr.slice 37 v none (some (.int .i64 (L:Int))) none).run Tryz.prog W=.ok V W)∧IsTexts w.heap.size w V (ls.take L):=by
 have ht:Tryz.prog.underlying 37=some (.slice (Tryz.prog.elem 37)):=by rw[elemT];exact Tryz.underlying37
 have his:=h.is
 rcases h.2 with ⟨rfl,hn⟩|⟨g,cap,cur,rfl,hg,hh,hnc,hcm,hcs,htake⟩
 ·have hls:ls=[]:=List.eq_nil_of_length_eq_zero hn
  subst hls
  obtain rfl:L=0:=Nat.le_zero.1 hL
  refine ⟨.slice none 0 0,fun W=>?_,texts_none _ _⟩
  rw[run_slice_h W 37 none 0 0 ht .i64 ((0:Nat):Int) (by decide) (by decide),elemT,Tryz.sizeOf9]
  rfl
 ·refine ⟨.slice (some ⟨g,0,none⟩) L cap,fun W=>?_,?_⟩
  ·rw[run_slice_h W 37 (some ⟨g,0,none⟩) ls.length cap ht .i64 (L:Int) (by omega) (by omega),elemT,Tryz.sizeOf9]
   show Result.ok (sliced (some ⟨g,0,none⟩) 0 ((L:Int)).toNat cap 1) W=_
   rw[Int.toNat_natCast]
   have e:sliced (some ⟨g,0,none⟩) 0 L cap 1=.slice (some ⟨g,0,none⟩) L cap:=by
    unfold sliced
    split <;> rfl
   rw[e]
  ·have hlt:(ls.take L).length=L:=by rw[List.length_take];omega
   refine ⟨_,cap,by rw[hlt],by rw[hlt];omega,hcm,(fun h=>by cases h),fun hp=>⟨g,0,rfl,(Array.getElem?_eq_some_iff.1 hh).1,fun j hj=>?_⟩⟩
   rw[hlt] at hj
   have hp2:0<ls.length:=by omega
   have hj2:j<ls.length:=by omega
   clear hcm hnc hcs htake hh
   obtain ⟨b,o,e,_,hc⟩:=IsTexts.at his rfl hp2
   simp only[Option.some.injEq,Addr.mk.injEq,and_true] at e
   obtain ⟨rfl,rfl⟩:=e
   rw[hc j hj2]
   simp[List.getD,hj]
end Go.Proofs.YthcmkpiajkbpnaaGreatDoor
