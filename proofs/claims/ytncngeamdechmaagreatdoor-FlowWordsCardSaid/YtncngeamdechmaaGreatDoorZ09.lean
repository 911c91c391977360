/- Parts of the proof, put together from smaller texts (blanks that Lean does not want are struck). Conditions: those that each theorem writes out. -/
import Derived.BigQuiet
import Derived.Deep.DeepCutAuto
import Derived.Deep.RegionHeld3
import Derived.Deep.RegionLaw
import Derived.Great.BuildSlice
import Derived.Laws.AppendOwnNone
import Derived.Laws.Tables
import Derived.Test.YtncngeamdechmaaGreatDoorZ00
import Derived.Test.YtncngeamdechmaaGreatDoorZ03
import Derived.Test.YtncngeamdechmaaGreatDoorZ04
import Derived.Test.YtncngeamdechmaaGreatDoorZ06
import Derived.Test.YtncngeamdechmaaGreatDoorZ07
import Derived.Test.YtncngeamdechmaaGreatDoorZ08
namespace Go.Proofs.YtncngeamdechmaaGreatDoor
open Go.RowKit
def flC (s:ByteArray) (n p e:Int) (v:Value) (nr:Bool):Array Value:=#[.string s,.int .i64 n,.int .i64 p,.int .i64 e,v,.bool nr]
def FlAt (g:Nat) (s:ByteArray) (n p e:Int) (v:Value) (nr:Bool) (w:World):Prop:=w.heap[g]?=some (.cells (flC s n p e v nr) 44 (0,0))
section
variable {g:Nat} {s:ByteArray} {n p e:Int} {v:Value} {nr:Bool} {w:World}
theorem FlAt.lt (h:FlAt g s n p e v nr w):g<w.heap.size:=(Array.getElem?_eq_some_iff.1 h).1
theorem FlAt.cell (h:FlAt g s n p e v nr w):∀ j,w.cell? ⟨g,j,none⟩=(#[.string s,.int .i64 n,.int .i64 p,.int .i64 e,v,.bool nr]:Array Value)[j]?:=fun j=>cell_of_row w _ j _ _ _ h
theorem FlAt.free (h:FlAt g s n p e v nr w):∀ j,w.frozen? ⟨g,j,none⟩=false:=fun j=>frozen_of_row w _ j _ _ h
theorem FlAt.below {B:Nat} {w':World} (h:FlAt g s n p e v nr w) (hb:Below B w w') (hg:g<B):FlAt g s n p e v nr w':=(hb.block g hg).trans h
theorem FlAt.drewN (h:FlAt g s n p e v nr w) (k:Nat):FlAt g s n p e v nr (w.drewN k):=h.below (below_drewN (Below.refl _ _) k) h.lt
theorem FlAt.grown {w':World} {row:Option Nat} (h:FlAt g s n p e v nr w) (hg:w.grownBy w' row) (hne:row≠some g):FlAt g s n p e v nr w':=(hg.block g h.lt (fun e=>hne e.symm)).trans h
end
def pkN (s:ByteArray) (p:Nat):Nat:=if p<s.size then byt s p else 0
theorem isB_pk (s:ByteArray) (p c:Nat) (hc:c≠0):isB s p c=decide (pkN s p=c):=by
 unfold isB pkN
 rw[decide_eq_decide]
 split
 ·rename_i h;exact ⟨fun h=>h.2,fun e=>⟨h,e⟩⟩
 ·rename_i h;exact ⟨fun e=>absurd e.1 h,fun e=>absurd e.symm hc⟩
theorem pk_lt {s:ByteArray} {p c:Nat} (h:pkN s p=c) (hc:c≠0):p<s.size∧byt s p=c:=by
 unfold pkN at h
 split at h
 ·exact ⟨by assumption,h⟩
 ·exact absurd h.symm hc
set_option maxRecDepth 100000 in
set_option maxHeartbeats 800000 in
theorem flPeek_is (c:Nat) (g:Nat) (s:ByteArray) (n:Int) (p:Nat) (e0:Int) (v:Value) (nr:Bool) (w:World) (h:FlAt g s n (p:Int) e0 v nr w) (_hs:s.size≤1000000) (hr:pkN s p=c) :
  Calls Tryz.prog 16 #[.pointer (some ⟨g,0,none⟩)] w fun e w'=>e=.returned (.int .u8 (c:Int))∧∃ k,w'=w.drewN k:=by
 have hc:=h.cell
 unfold pkN at hr
 have h0:¬ ((p:Int)<0):=by omega
 by_cases hp:p<s.size
 ·rw[if_pos hp] at hr
  subst hr
  have hi:=run_byt s p hp _ rfl
  obtain ⟨y,hy⟩:∃ y:Nat,byt s p=y:=⟨_,rfl⟩
  rw[hy] at hi ⊢
  have hp2:decide ((s.size:Int)≤(p:Int))=false:=decide_eq_false (by omega)
  clear hy h
  go_enter Tryz.func16,Tryz.ntmps16
  go_wp2_with fail
  go_quiet (fail)
  go_wp2_with fail
  go_quiet (fail)
  go_wp2
  go_ret
  exact ⟨rfl,_,(World.drewN_drewN _ _ _)⟩
 ·rw[if_neg hp] at hr
  subst hr
  have hp2:(s.size:Int)≤(p:Int):=by omega
  clear h
  go_enter Tryz.func16,Tryz.ntmps16
  go_wp2_with fail
  go_quiet (fail)
  go_wp2
  go_ret
  exact ⟨rfl,_,rfl⟩
set_option maxRecDepth 100000 in
set_option maxHeartbeats 800000 in
theorem flQuery_is (r:Bool) (g:Nat) (s:ByteArray) (n:Int) (p:Nat) (e0:Int) (v:Value) (nr:Bool) (w:World) (h:FlAt g s n (p:Int) e0 v nr w) (hs:s.size≤1000000) (hr:queryB s p=r) :
  Calls Tryz.prog 24 #[.pointer (some ⟨g,0,none⟩)] w fun e w'=>e=.returned (.bool r)∧∃ k,w'=w.drewN k:=by
 have hs2:s.size≤1099511627776:=by omega
 unfold queryB at hr
 rw[isB_pk s p 63 (by decide)] at hr
 obtain ⟨c,hpc⟩:∃ c,pkN s p=c:=⟨_,rfl⟩
 have C1:=fun W H=>flPeek_is c g s n p e0 v nr W H hs hpc
 have CE:=fun W=>Ends_is (endsB s ((p+1:Nat):Int)) s ((p:Int)+1) W hs2 (by rw[show ((p+1:Nat):Int)=(p:Int)+1 by omega])
 rw[hpc] at hr
 have hc:=h.cell
 have H:=Lib.hid h
 clear h
 by_cases h63:c=63
 ·subst h63
  have hlt:=(pk_lt hpc (by decide)).1
  rw[decide_eq_true rfl,Bool.true_and] at hr
  rw[hr] at CE
  clear hpc hr
  go_enter Tryz.func24,Tryz.ntmps24
  go_wp2_with fail
  go_quiet (first|exact Calls.quiet_of (C1 _ (H.out.drewN _))|exact Calls.quiet_of_same ((CE _).mono (by rintro e w' ⟨rfl,rfl⟩;exact ⟨rfl,rfl⟩)))
  go_wp2
  go_ret
  exact ⟨rfl,_,rfl⟩
 ·rw[decide_eq_false h63,Bool.false_and] at hr
  subst hr
  have hb:((c:Int)==63)=false:=by rw[beq_eq_false_iff_ne];omega
  clear hpc h63 CE
  go_enter Tryz.func24,Tryz.ntmps24
  go_wp2_with fail
  go_quiet (first|exact Calls.quiet_of (C1 _ (H.out.drewN _)))
  go_wp2
  go_ret
  exact ⟨rfl,_,rfl⟩
set_option maxRecDepth 100000 in
set_option maxHeartbeats 800000 in
theorem flEnds_is (r:Bool) (g:Nat) (s:ByteArray) (n:Int) (p:Nat) (e0:Int) (v:Value) (nr:Bool) (w:World) (h:FlAt g s n (p:Int) e0 v nr w) (hs:s.size≤1000000) (hr:lacksB s p=r) :
  Calls Tryz.prog 31 #[.pointer (some ⟨g,0,none⟩)] w fun e w'=>e=.returned (.bool r)∧∃ k,w'=w.drewN k:=by
 unfold lacksB at hr
 rw[isB_pk s p 44 (by decide),isB_pk s p 93 (by decide),isB_pk s p 125 (by decide)] at hr
 obtain ⟨c,hpc⟩:∃ c,pkN s p=c:=⟨_,rfl⟩
 have C1:=fun W H=>flPeek_is c g s n p e0 v nr W H hs hpc
 rw[hpc] at hr
 clear hpc
 by_cases h44:c=44
 ·subst h44 hr
  go_enter Tryz.func31,Tryz.ntmps31
  go_wp2_with fail
  refine (C1 _ h).mono ?_
  rintro e w1 ⟨rfl,k1,rfl⟩
  go_wp2
  go_ret
  exact ⟨rfl,k1,rfl⟩
 ·by_cases h93:c=93
  ·subst h93 hr
   go_enter Tryz.func31,Tryz.ntmps31
   go_wp2_with fail
   refine (C1 _ h).mono ?_
   rintro e w1 ⟨rfl,k1,rfl⟩
   go_wp2
   go_ret
   exact ⟨rfl,k1,rfl⟩
  ·by_cases h125:c=125
   ·subst h125 hr
    go_enter Tryz.func31,Tryz.ntmps31
    go_wp2_with fail
    refine (C1 _ h).mono ?_
    rintro e w1 ⟨rfl,k1,rfl⟩
    go_wp2
    go_ret
    exact ⟨rfl,k1,rfl⟩
   ·rw[decide_eq_false h44,decide_eq_false h93,decide_eq_false h125] at hr
    subst hr
    have b1:((c:Int)==44)=false:=by rw[beq_eq_false_iff_ne];omega
    have b2:((c:Int)==93)=false:=by rw[beq_eq_false_iff_ne];omega
    have b3:((c:Int)==125)=false:=by rw[beq_eq_false_iff_ne];omega
    clear h44 h93 h125
    go_enter Tryz.func31,Tryz.ntmps31
    go_wp2_with fail
    refine (C1 _ h).mono ?_
    rintro e w1 ⟨rfl,k1,rfl⟩
    go_wp2
    go_ret
    exact ⟨rfl,k1,rfl⟩
set_option maxRecDepth 100000 in
set_option maxHeartbeats 1600000 in
theorem flBegins_is (r:Bool) (g:Nat) (s:ByteArray) (n:Int) (p:Nat) (e0:Int) (v:Value) (nr:Bool) (w:World) (h:FlAt g s n (p:Int) e0 v nr w) (hs:s.size≤1000000) (hr:begP s p=r) :
  Calls Tryz.prog 38 #[.pointer (some ⟨g,0,none⟩)] w fun e w'=>e=.returned (.bool r)∧∃ k,w'=w.drewN k:=by
 unfold begP at hr
 rw[isB_pk s p 91 (by decide),isB_pk s p 123 (by decide),isB_pk s p 39 (by decide),isB_pk s p 34 (by decide)] at hr
 obtain ⟨c,hpc⟩:∃ c,pkN s p=c:=⟨_,rfl⟩
 have C1:=fun W H=>flPeek_is c g s n p e0 v nr W H hs hpc
 have CB:=fun W=>plaiBegins_is (begB s (p:Int) true) s (p:Int) true W (by omega) rfl
 rw[hpc] at hr
 clear hpc
 have known:(c=91∨c=123∨c=39∨c=34)→r=true:=by
  rintro (e|e|e|e) <;> subst e <;> rw[←hr] <;> rfl
 by_cases h91:c=91
 ·have hrt:=known (.inl h91)
  subst h91 hrt
  clear hr known
  go_enter Tryz.func38,Tryz.ntmps38
  go_wp2_with fail
  refine (C1 _ h).mono ?_
  rintro e w1 ⟨rfl,k1,rfl⟩
  go_wp2
  go_ret
  exact ⟨rfl,k1,rfl⟩
 ·by_cases h123:c=123
  ·have hrt:=known (.inr (.inl h123))
   subst h123 hrt
   clear hr known
   go_enter Tryz.func38,Tryz.ntmps38
   go_wp2_with fail
   refine (C1 _ h).mono ?_
   rintro e w1 ⟨rfl,k1,rfl⟩
   go_wp2
   go_ret
   exact ⟨rfl,k1,rfl⟩
  ·by_cases h39:c=39
   ·have hrt:=known (.inr (.inr (.inl h39)))
    subst h39 hrt
    clear hr known
    go_enter Tryz.func38,Tryz.ntmps38
    go_wp2_with fail
    refine (C1 _ h).mono ?_
    rintro e w1 ⟨rfl,k1,rfl⟩
    go_wp2
    go_ret
    exact ⟨rfl,k1,rfl⟩
   ·by_cases h34:c=34
    ·have hrt:=known (.inr (.inr (.inr h34)))
     subst h34 hrt
     clear hr known
     go_enter Tryz.func38,Tryz.ntmps38
     go_wp2_with fail
     refine (C1 _ h).mono ?_
     rintro e w1 ⟨rfl,k1,rfl⟩
     go_wp2
     go_ret
     exact ⟨rfl,k1,rfl⟩
    ·rw[decide_eq_false h91,decide_eq_false h123,decide_eq_false h39,decide_eq_false h34] at hr
     have hr2:begB s (p:Int) true=r:=hr
     rw[hr2] at CB
     have b1:((c:Int)==91)=false:=by rw[beq_eq_false_iff_ne];omega
     have b2:((c:Int)==123)=false:=by rw[beq_eq_false_iff_ne];omega
     have b3:((c:Int)==39)=false:=by rw[beq_eq_false_iff_ne];omega
     have b4:((c:Int)==34)=false:=by rw[beq_eq_false_iff_ne];omega
     clear h91 h123 h39 h34 hr hr2 known
     go_enter Tryz.func38,Tryz.ntmps38
     go_wp2_with fail
     refine (C1 _ h).mono ?_
     rintro e w1 ⟨rfl,k1,rfl⟩
     have h1:=h.drewN k1
     obtain ⟨W1,hW1⟩:∃ W1,W1=w.drewN k1:=⟨_,rfl⟩
     rw[←hW1] at h1 ⊢
     have hc:=h1.cell
     have HW:=Lib.hid hW1
     clear h C1 hW1
     go_wp2_with fail
     go_quiet (first|exact Calls.quiet_of_same ((CB _).mono (by rintro e w' ⟨rfl,rfl⟩;exact ⟨rfl,rfl⟩)))
     go_wp2
     go_ret
     exact ⟨rfl,_,by rw[HW.out];exact World.drewN_drewN _ _ _⟩
set_option maxRecDepth 100000 in
set_option maxHeartbeats 800000 in
theorem flPass_is (g:Nat) (s:ByteArray) (n p e0 q:Int) (v:Value) (nr:Bool) (w:World) (h:FlAt g s n p e0 v nr w) :
  Calls Tryz.prog 18 #[.pointer (some ⟨g,0,none⟩),.int .i64 q] w fun e w'=>e=.returned (.tuple #[])∧FlAt g s n q q v nr w'∧w.grownBy w' (some g)∧w'.heap.size=w.heap.size:=by
 have hz:=h.free
 have hc:=h.cell
 have H:=Lib.hid h
 clear h
 go_enter Tryz.func18,Tryz.ntmps18
 go_wp2
 go_end0
 exact ⟨rfl,heap_setCell_same _ _ 3 _ _ _ (heap_setCell_same _ _ 2 _ _ _ H.out),⟨rfl,rfl,rfl,by simp[World.setCell],fun k hk hne=>by
  rw[heap_setCell_other _ _ _ _ (fun e=>hne (by rw[e])),heap_setCell_other _ _ _ _ (fun e=>hne (by rw[e]))]⟩,by simp[World.setCell]⟩
set_option maxRecDepth 100000 in
set_option maxHeartbeats 800000 in
theorem flTake_is (g:Nat) (s:ByteArray) (n p e0:Int) (a:Option Addr) (m c:Nat) (nr:Bool) (w:World) (h:FlAt g s n p e0 (.slice a m c) nr w) :
  Calls Tryz.prog 20 #[.pointer (some ⟨g,0,none⟩)] w fun e w'=>e=.returned (.slice a m c)∧FlAt g s n p e0 (.slice none 0 0) false w'∧w.grownBy w' (some g)∧w'.heap.size=w.heap.size:=by
 have hz:=h.free
 have hc:=h.cell
 have H:=Lib.hid h
 clear h
 go_enter Tryz.func20,Tryz.ntmps20
 go_wp2
 go_ret
 exact ⟨rfl,heap_setCell_same _ _ 5 _ _ _ (heap_setCell_same _ _ 4 _ _ _ H.out),⟨rfl,rfl,rfl,by simp[World.setCell],fun k hk hne=>by
  rw[heap_setCell_other _ _ _ _ (fun e=>hne (by rw[e])),heap_setCell_other _ _ _ _ (fun e=>hne (by rw[e]))]⟩,by simp[World.setCell]⟩
set_option maxRecDepth 100000 in
set_option maxHeartbeats 800000 in
theorem flEmpty_is (w:World) :
  Calls Tryz.prog 30 #[] w fun e w'=>e=.returned (.agg (headC voidN.h (.slice none 0 0) (.slice none 0 0) (.slice none 0 0)).toArray)∧Below w.heap.size w w':=by
 go_enter Tryz.func30,Tryz.ntmps30
 go_wp2
 have hcz:∀ j,(w.alloc (.cells #[.int .i64 1,.int .i64 1,.int .i64 (-1),.int .i64 0,.string ⟨#[]⟩,.string ⟨#[]⟩,.string ⟨#[]⟩,.slice none 0 0,.slice none 0 0,.slice none 0 0,.bool false,.string ⟨#[]⟩] 30)).cell? ⟨w.heap.size,j,none⟩=(#[.int .i64 1,.int .i64 1,.int .i64 (-1),.int .i64 0,.string ⟨#[]⟩,.string ⟨#[]⟩,.string ⟨#[]⟩,.slice none 0 0,.slice none 0 0,.slice none 0 0,.bool false,.string ⟨#[]⟩]:Array Value)[j]?:=fun j=>cell_of_row _ _ j _ _ _ (heap_alloc_new w _)
 refine bodyPost_ret (v:=.agg #[.int .i64 1,.int .i64 1,.int .i64 (-1),.int .i64 0,.string ⟨#[]⟩,.string ⟨#[]⟩,.string ⟨#[]⟩,.slice none 0 0,.slice none 0 0,.slice none 0 0,.bool false,.string ⟨#[]⟩]) (by simp[results,Tryz.results30,go_sem,hcz]) rfl ?_
 exact ⟨rfl,(Below.refl _ _).alloc (Nat.le_refl _) _⟩
set_option maxRecDepth 100000 in
set_option maxHeartbeats 1600000 in
theorem flColon_is (r:Bool) (g:Nat) (s:ByteArray) (n:Int) (p:Nat) (e0:Int) (v:Value) (nr:Bool) (k:NH) (kk kl kf:Value) (w:World) (h:FlAt g s n (p:Int) e0 v nr w) (hs:s.size≤1000000)
  (hk1:∃ a n c,kk=.slice a n c) (hk2:∃ a n c,kl=.slice a n c) (hk3:∃ a n c,kf=.slice a n c) (hr:signB s p (decide (k.kind=3∨k.kind=4∨k.style=2∨k.style=3))=r) :
  Calls Tryz.prog 25 #[.pointer (some ⟨g,0,none⟩),.agg (headC k kk kl kf).toArray] w fun e w'=>e=.returned (.bool r)∧Below w.heap.size w w':=by
 obtain ⟨a1,n1,c1,rfl⟩:=hk1
 obtain ⟨a2,n2,c2,rfl⟩:=hk2
 obtain ⟨a3,n3,c3,rfl⟩:=hk3
 have hs2:s.size≤1099511627776:=by omega
 unfold signB at hr
 rw[isB_pk s p 58 (by decide)] at hr
 obtain ⟨c,hpc⟩:∃ c,pkN s p=c:=⟨_,rfl⟩
 have C1:=fun W H=>flPeek_is c g s n p e0 v nr W H hs hpc
 rw[hpc] at hr
 unfold headC
 revert hr
 generalize k.kind=k0
 generalize k.style=k1
 generalize k.at'=k2
 generalize k.blank=k3
 generalize (⟨k.anchor.toArray⟩:ByteArray)=k4
 generalize (⟨k.tag.toArray⟩:ByteArray)=k5
 generalize (⟨k.text.toArray⟩:ByteArray)=k6
 generalize k.ht=k7
 generalize (⟨k.trail.toArray⟩:ByteArray)=k8
 intro hr
 have hg:=h.lt
 obtain ⟨W1,hW1⟩:∃ W1,W1=w.alloc (.cells #[.int .i64 k0,.int .i64 k1,.int .i64 k2,.int .i64 k3,.string k4,.string k5,.string k6,.slice a1 n1 c1,.slice a2 n2 c2,.slice a3 n3 c3,.bool k7,.string k8] 30):=⟨_,rfl⟩
 have b1:Below w.heap.size w W1:=by rw[hW1];exact (Below.refl _ _).alloc (Nat.le_refl _) _
 have hr1:W1.heap[w.heap.size]?=some (.cells #[.int .i64 k0,.int .i64 k1,.int .i64 k2,.int .i64 k3,.string k4,.string k5,.string k6,.slice a1 n1 c1,.slice a2 n2 c2,.slice a3 n3 c3,.bool k7,.string k8] 30 (0,0)):=by rw[hW1];exact heap_alloc_new w _
 have h1:=h.below b1 hg
 have q1:∀ j,W1.cell? ⟨w.heap.size,j,none⟩=(#[.int .i64 k0,.int .i64 k1,.int .i64 k2,.int .i64 k3,.string k4,.string k5,.string k6,.slice a1 n1 c1,.slice a2 n2 c2,.slice a3 n3 c3,.bool k7,.string k8]:Array Value)[j]?:=fun j=>cell_of_row W1 _ j _ _ _ hr1
 have HW:=Lib.hid hW1
 by_cases h58:c=58
 ·subst h58
  have hlt:=(pk_lt hpc (by decide)).1
  rw[decide_eq_true rfl,Bool.true_and] at hr
  clear hpc
  by_cases n0:k0=3
  ·subst n0
   have hr2:r=true:=by rw[←hr];rfl
   subst hr2
   clear hr hW1
   go_enter Tryz.func25,Tryz.ntmps25
   go_wp2_with fail
   rw[←HW.out]
   refine (C1 _ h1).mono ?_
   rintro e w2 ⟨rfl,j1,rfl⟩
   go_wp2
   go_ret
   exact ⟨rfl,below_drewN b1 j1⟩
  ·have f0:(k0==3)=false:=by rw[beq_eq_false_iff_ne];exact n0
   by_cases n1':k0=4
   ·subst n1'
    have hr2:r=true:=by rw[←hr];rfl
    subst hr2
    clear hr hW1 n0
    go_enter Tryz.func25,Tryz.ntmps25
    go_wp2_with fail
    rw[←HW.out]
    refine (C1 _ h1).mono ?_
    rintro e w2 ⟨rfl,j1,rfl⟩
    go_wp2
    go_ret
    exact ⟨rfl,below_drewN b1 j1⟩
   ·have f1:(k0==4)=false:=by rw[beq_eq_false_iff_ne];exact n1'
    by_cases n2':k1=2
    ·subst n2'
     have hr2:r=true:=by rw[←hr,decide_eq_true (.inr (.inr (.inl rfl)))];rfl
     subst hr2
     clear hr hW1 n0 n1'
     go_enter Tryz.func25,Tryz.ntmps25
     go_wp2_with fail
     rw[←HW.out]
     refine (C1 _ h1).mono ?_
     rintro e w2 ⟨rfl,j1,rfl⟩
     go_wp2
     go_ret
     exact ⟨rfl,below_drewN b1 j1⟩
    ·have f2:(k1==2)=false:=by rw[beq_eq_false_iff_ne];exact n2'
     by_cases n3':k1=3
     ·subst n3'
      have hr2:r=true:=by rw[←hr,decide_eq_true (.inr (.inr (.inr rfl)))];rfl
      subst hr2
      clear hr hW1 n0 n1' n2'
      go_enter Tryz.func25,Tryz.ntmps25
      go_wp2_with fail
      rw[←HW.out]
      refine (C1 _ h1).mono ?_
      rintro e w2 ⟨rfl,j1,rfl⟩
      go_wp2
      go_ret
      exact ⟨rfl,below_drewN b1 j1⟩
     ·have f3:(k1==3)=false:=by rw[beq_eq_false_iff_ne];exact n3'
      rw[decide_eq_false (by rintro (e|e|e|e);exact n0 e;exact n1' e;exact n2' e;exact n3' e),Bool.false_or] at hr
      have CE:=fun W=>Ends_is (endsB s ((p+1:Nat):Int)) s ((p:Int)+1) W hs2 (by rw[show ((p+1:Nat):Int)=(p:Int)+1 by omega])
      rcases fit_ways hr with ⟨hE,rfl⟩|⟨hE,hqz,hff,rfl⟩|⟨hE,hqz,_,hfl⟩
      ·rw[hE] at CE
       clear hr hE hW1 n0 n1' n2' n3'
       go_enter Tryz.func25,Tryz.ntmps25
       go_wp2_with fail
       rw[←HW.out]
       refine (C1 _ h1).mono ?_
       rintro e w2 ⟨rfl,j1,rfl⟩
       have h2:=h1.drewN j1
       have b2:=below_drewN b1 j1
       have q2:∀ j,(W1.drewN j1).cell? ⟨w.heap.size,j,none⟩=(#[.int .i64 k0,.int .i64 k1,.int .i64 k2,.int .i64 k3,.string k4,.string k5,.string k6,.slice a1 n1 c1,.slice a2 n2 c2,.slice a3 n3 c3,.bool k7,.string k8]:Array Value)[j]?:=q1
       generalize W1.drewN j1=W2 at h2 b2 q2 ⊢
       have hc:=h2.cell
       clear h1 b1 q1 C1 HW
       go_wp2_with fail
       go_quiet (first|exact Calls.quiet_of_same ((CE _).mono (by rintro e w' ⟨rfl,rfl⟩;exact ⟨rfl,rfl⟩)))
       go_wp2
       go_ret
       exact ⟨rfl,below_drewN b2 _⟩
      ·cases hff
      ·rw[hE] at CE
       have hj:=run_byt s (p+1) hqz _ rfl
       rw[show ((p+1:Nat):Int)=(p:Int)+1 by omega] at hj
       obtain ⟨b2',hb2⟩:∃ b:Nat,b=byt s (p+1):=⟨_,rfl⟩
       rw[←hb2] at hj hfl
       have CF:=fun W=>Flow_is r (b2':Int) W hfl
       have hp3:(p:Int)+1<(s.size:Int):=by omega
       clear hr hE hb2 hfl hW1 n0 n1' n2' n3'
       go_enter Tryz.func25,Tryz.ntmps25
       go_wp2_with fail
       rw[←HW.out]
       refine (C1 _ h1).mono ?_
       rintro e w2 ⟨rfl,j1,rfl⟩
       have h2:=h1.drewN j1
       have b2:=below_drewN b1 j1
       have q2:∀ j,(W1.drewN j1).cell? ⟨w.heap.size,j,none⟩=(#[.int .i64 k0,.int .i64 k1,.int .i64 k2,.int .i64 k3,.string k4,.string k5,.string k6,.slice a1 n1 c1,.slice a2 n2 c2,.slice a3 n3 c3,.bool k7,.string k8]:Array Value)[j]?:=q1
       generalize W1.drewN j1=W2 at h2 b2 q2 ⊢
       have hc:=h2.cell
       clear h1 b1 q1 C1 HW
       go_wp2_with fail
       go_quiet (first|exact Calls.quiet_of_same ((CE _).mono (by rintro e w' ⟨rfl,rfl⟩;exact ⟨rfl,rfl⟩))|exact Calls.quiet_of_same ((CF _).mono (by rintro e w' ⟨rfl,rfl⟩;exact ⟨rfl,rfl⟩)))
       go_wp2
       go_ret
       exact ⟨rfl,below_drewN b2 _⟩
 ·rw[decide_eq_false h58,Bool.false_and] at hr
  subst hr
  have hb:((c:Int)==58)=false:=by rw[beq_eq_false_iff_ne];omega
  clear hpc h58 hW1
  go_enter Tryz.func25,Tryz.ntmps25
  go_wp2_with fail
  rw[←HW.out]
  refine (C1 _ h1).mono ?_
  rintro e w2 ⟨rfl,j1,rfl⟩
  go_wp2
  go_ret
  exact ⟨rfl,below_drewN b1 j1⟩
end Go.Proofs.YtncngeamdechmaaGreatDoor
namespace Go.Proofs.YtncngeamdechmaaGreatDoor
open Go.RowKit
structure Keep (P:Nat→Prop) (w w':World):Prop where
 os:w'.os=w.os
 tape:w'.tape=w.tape
 output:w'.output=w.output
 size:w.heap.size≤w'.heap.size
 block:∀ k,P k→w'.heap[k]?=w.heap[k]?
theorem Keep.refl (P:Nat→Prop) (w:World):Keep P w w:=⟨rfl,rfl,rfl,Nat.le_refl _,fun _ _=>rfl⟩
theorem Keep.trans {P Q:Nat→Prop} {a b c:World} (h:Keep P a b) (k:Keep Q b c) (hQ:∀ i,P i→Q i):Keep P a c:=
 ⟨k.os.trans h.os,k.tape.trans h.tape,k.output.trans h.output,Nat.le_trans h.size k.size,fun i hi=>(k.block i (hQ i hi)).trans (h.block i hi)⟩
theorem Keep.mono {P Q:Nat→Prop} {a b:World} (h:Keep Q a b) (hQ:∀ i,P i→Q i):Keep P a b:=⟨h.os,h.tape,h.output,h.size,fun i hi=>h.block i (hQ i hi)⟩
theorem Keep.setCell {P:Nat→Prop} {a w:World} (h:Keep P a w) {p:Addr} (hp:¬ P p.block) (u:Value):Keep P a (w.setCell p u):=
 h.trans ⟨rfl,rfl,rfl,by simp[World.setCell],fun k hk=>Below.heap_setCell _ _ _ _ (fun e=>hp (e ▸ hk))⟩ (fun _ hi=>hi)
theorem Keep.of {B:Nat} {P:Nat→Prop} {a b:World} (h:Below B a b) (hP:∀ k,P k→k<B):Keep P a b:=⟨h.os,h.tape,h.output,h.size,fun i hi=>h.block i (hP i hi)⟩
theorem Keep.below {B:Nat} {P:Nat→Prop} {a b:World} (h:Keep P a b) (hP:∀ k,k<B→P k):Below B a b:=⟨h.os,h.tape,h.output,h.size,fun i hi=>h.block i (hP i hi)⟩
end Go.Proofs.YtncngeamdechmaaGreatDoor
