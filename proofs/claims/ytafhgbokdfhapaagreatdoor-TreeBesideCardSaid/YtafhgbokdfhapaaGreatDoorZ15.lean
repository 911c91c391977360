/- Parts of the proof, put together from smaller texts (blanks that Lean does not want are struck). Conditions: those that each theorem writes out. -/
import Derived.Deep.AppendLies
import Derived.Deep.CutRange
import Derived.Defers
import Derived.Recover
import Derived.WalkLawsBesides
import Derived.Test.YtafhgbokdfhapaaGreatDoorZ05
import Derived.Test.YtafhgbokdfhapaaGreatDoorZ06
import Derived.Test.YtafhgbokdfhapaaGreatDoorZ11
import Derived.Test.YtafhgbokdfhapaaGreatDoorZ12
import Derived.Test.YtafhgbokdfhapaaGreatDoorZ14
namespace Go.Proofs.YtafhgbokdfhapaaGreatDoor
open Go.RowKit
def trC (s:ByteArray) (p:Nat) (v:Value):Array Value:=#[.string s,.int .i64 (p:Int),v]
def TrAt (g:Nat) (s:ByteArray) (p:Nat) (v:Value) (w:World):Prop:=w.heap[g]?=some (.cells (trC s p v) 52 (0,0))
section
variable {g:Nat} {s:ByteArray} {p:Nat} {v:Value} {w:World}
theorem TrAt.lt (h:TrAt g s p v w):g<w.heap.size:=(Array.getElem?_eq_some_iff.1 h).1
theorem TrAt.cell (h:TrAt g s p v w):∀ j,w.cell? ⟨g,j,none⟩=(#[.string s,.int .i64 (p:Int),v]:Array Value)[j]?:=fun j=>cell_of_row w _ j _ _ _ h
theorem TrAt.free (h:TrAt g s p v w):∀ j,w.frozen? ⟨g,j,none⟩=false:=fun j=>frozen_of_row w _ j _ _ h
theorem TrAt.below {B:Nat} {w':World} (h:TrAt g s p v w) (hb:Below B w w') (hg:g<B):TrAt g s p v w':=(hb.block g hg).trans h
theorem TrAt.drewN (h:TrAt g s p v w) (k:Nat):TrAt g s p v (w.drewN k):=h.below (below_drewN (Below.refl _ _) k) h.lt
end
def flt (q:Nat) (c:Int):Ending:=.panicked [{ v:=.iface 50 (.agg #[.int .i64 (q:Int),.int .i64 c]),recovered:=false }]
set_option maxRecDepth 100000 in
theorem trRaise_is (q:Nat) (c:Int) (w:World):Calls Tryz.prog 22 #[.int .i64 (q:Int),.int .i64 c] w fun e w'=>e=flt q c∧w'=w:=by
 go_enter Tryz.func22,Tryz.ntmps22
 go_wp2
 exact ⟨rfl,rfl,rfl⟩
set_option maxRecDepth 100000 in
theorem trExpect_ok (q:Nat) (w:World):Calls Tryz.prog 63 #[.int .i64 (q:Int),.int .i64 0] w fun e w'=>e=.returned (.tuple #[])∧w'=w:=by
 go_enter Tryz.func63,Tryz.ntmps63
 go_wp2
 go_end0
 exact ⟨rfl,rfl⟩
set_option maxRecDepth 100000 in
theorem trExpect_bad (q:Nat) (c:Int) (hc:c≠0) (w:World):Calls Tryz.prog 63 #[.int .i64 (q:Int),.int .i64 c] w fun e w'=>e=flt q c∧w'=w:=by
 have hb:(c != 0)=true:=by rw[bne,Bool.not_eq_eq_eq_not,Bool.not_true,beq_eq_false_iff_ne];exact hc
 go_enter Tryz.func63,Tryz.ntmps63
 go_wp2_with fail
 refine (trRaise_is q c _).mono ?_
 rintro e w' ⟨rfl,rfl⟩
 exact ⟨rfl,rfl,rfl⟩
theorem colF_rowB {s:ByteArray} {p a:Nat} (h:RowB s p a):(p:Int)-(a:Int)=(colF s p:Int):=by
 have h1:=colF_row p h.1 (sameRow_iff.2 fun j j1 j2=>h.2.1 j j1 j2)
 have h0:colF s a=0:=by
  rcases h.2.2 with h2|h2
  ·rw[h2];rfl
  ·cases a with
   | zero=>rfl
   | succ a=>
    rw[Nat.add_sub_cancel] at h2
    show (if byt s a=10 then 0 else _)=0
    rw[if_pos h2]
 have:=h.1
 rw[h1,h0]
 omega
section
variable (g:Nat) (s:ByteArray) (p:Nat) (v:Value) (w:World)
set_option maxRecDepth 100000 in
theorem trCol_is (h:TrAt g s p v w) (hs:s.size≤10000) (hp:p≤s.size):Calls Tryz.prog 40 #[.pointer (some ⟨g,0,none⟩)] w fun e w'=>e=.returned (.int .i64 (colF s p:Int))∧∃ k,w'=w.drewN k:=by
 obtain ⟨a,ha⟩:=RowB.ex s p
 have CC:∀ W,Calls Tryz.prog 74 #[.string s,.int .i64 (p:Int)] W fun e w'=>e=.returned (.int .i64 (colF s p:Int))∧W=w':=fun W=>by
  rw[←colF_rowB ha]
  exact Col_is a p s (p:Int) W (by omega) (clampN_self _ _ hp) ha
 have hc:=h.cell
 clear h
 go_enter Tryz.func40,Tryz.ntmps40
 go_wp2_with fail
 go_quiet (first|exact Calls.quiet_of_same ((CC _).mono (by rintro e w' ⟨rfl,rfl⟩;exact ⟨rfl,rfl⟩)))
 go_wp2
 go_ret
 exact ⟨rfl,_,rfl⟩
set_option maxRecDepth 100000 in
theorem trMark_fn (q:Bool) (c:Nat) (hs:s.size≤10000) (hq:markB s p c=q):Calls Tryz.prog 30 #[.string s,.int .i64 (p:Int),.int .u8 (c:Int)] w fun e w'=>e=.returned (.bool q)∧w'=w:=by
 have CE:=fun W=>Ends_is (endsB s ((p+1:Nat):Int)) s ((p:Int)+1) W (by omega) (by rw[show ((p+1:Nat):Int)=(p:Int)+1 by omega])
 by_cases hp:p<s.size
 ·have hi:=run_byt s p hp _ rfl
  obtain ⟨y,hy⟩:∃ y:Nat,byt s p=y:=⟨_,rfl⟩
  have hd:decide ((p:Int)<(s.size:Int))=true:=decide_eq_true (by omega)
  by_cases hyc:y=c
  ·subst hyc
   have:markB s p y=endsB s ((p+1:Nat):Int):=by unfold markB;rw[isB_in.2 ⟨hp,hy⟩,Bool.true_and]
   rw[this] at hq
   rw[hq] at CE
   rw[hy] at hi
   have hb:((y:Int)==(y:Int))=true:=by rw[beq_iff_eq]
   clear this hq hy
   go_enter Tryz.func30,Tryz.ntmps30
   go_wp2_with fail
   refine (CE _).mono ?_
   rintro e w1 ⟨rfl,rfl⟩
   go_wp2
   go_ret
   exact ⟨rfl,rfl⟩
  ·have:markB s p c=false:=by unfold markB;rw[isB_no (by rw[hy];exact hyc),Bool.false_and]
   rw[this] at hq
   subst hq
   rw[hy] at hi
   have hb:((y:Int)==(c:Int))=false:=by rw[beq_eq_false_iff_ne];omega
   clear this hy CE hyc
   go_enter Tryz.func30,Tryz.ntmps30
   go_wp2
   go_ret
   exact ⟨rfl,rfl⟩
 ·have:markB s p c=false:=by unfold markB isB;rw[decide_eq_false (fun e=>hp e.1),Bool.false_and]
  rw[this] at hq
  subst hq
  have hd:(s.size:Int)≤(p:Int):=by omega
  clear this CE hp
  go_enter Tryz.func30,Tryz.ntmps30
  go_wp2
  go_ret
  exact ⟨rfl,rfl⟩
set_option maxRecDepth 100000 in
theorem trMark_is (q:Bool) (c:Nat) (h:TrAt g s p v w) (hs:s.size≤10000) (hq:markB s p c=q):Calls Tryz.prog 64 #[.pointer (some ⟨g,0,none⟩),.int .u8 (c:Int)] w fun e w'=>e=.returned (.bool q)∧∃ k,w'=w.drewN k:=by
 have CM:=fun W=>trMark_fn s p W q c hs hq
 have hc:=h.cell
 clear h hq
 go_enter Tryz.func64,Tryz.ntmps64
 go_wp2_with fail
 go_quiet (first|exact Calls.quiet_of_same ((CM _).mono (by rintro e w' ⟨rfl,rfl⟩;exact ⟨rfl,rfl⟩)))
 go_wp2
 go_ret
 exact ⟨rfl,_,rfl⟩
theorem kind_m3 {s:ByteArray} {p t q:Nat} (ht:RowE s p t):(kindN s p t q=3↔m3B s p 45=true)∧(kindN s p t q=4↔(m3B s p 45=false∧m3B s p 46=true)):=by
 have key:∀ ch,ch≠10→(mk3 s p t ch=true↔m3B s p ch=true):=fun ch hch=>by
  unfold mk3 m3B
  rw[decide_eq_true_eq,Bool.and_eq_true,Bool.and_eq_true,Bool.and_eq_true]
  have h1:=ht.1
  have h2:=ht.2.1
  constructor
  ·rintro ⟨a1,a2,a3,a4,a5⟩
   refine ⟨isB_in.2 ⟨by omega,a2⟩,isB_in.2 ⟨by omega,a3⟩,isB_in.2 ⟨by omega,a4⟩,?_⟩
   by_cases h3:p+3<s.size
   ·rw[endsB_in s _ h3]
    rcases a5 with a5|a5
    ·rcases ht.2.2.2 with e|e
     ·omega
     ·rw[a5,e];decide
    ·unfold U.white at a5
     unfold U.endc
     rw[decide_eq_true_eq] at a5 ⊢
     omega
   ·unfold endsB
    rw[if_pos (.inr (by omega))]
  ·rintro ⟨b1,b2,b3,b4⟩
   have b1:=isB_lt b1
   have b2:=isB_lt b2
   have b3:=isB_lt b3
   have hge:p+3≤t:=by
    refine Decidable.byContradiction fun hn=>?_
    rcases ht.2.2.2 with e|e
    ·omega
    ·have:t=p∨t=p+1∨t=p+2:=by omega
     rcases this with e2|e2|e2 <;> rw[e2] at e <;> omega
   refine ⟨hge,b1.2,b2.2,b3.2,?_⟩
   by_cases h3:p+3=t
   ·exact .inl h3
   ·right
    have hlt:p+3<s.size:=by omega
    rw[endsB_in s _ hlt] at b4
    have:=ht.2.2.1 (p+3) (by omega) (by omega)
    unfold U.endc at b4
    unfold U.white
    rw[decide_eq_true_eq] at b4 ⊢
    omega
 have k1:=key 45 (by decide)
 have k2:=key 46 (by decide)
 unfold kindN
 by_cases h1:mk3 s p t 45=true
 ·have h2:=k1.1 h1
  rw[if_pos h1,h2]
  refine ⟨by simp,by simp⟩
 ·have h2:m3B s p 45=false:=Bool.eq_false_iff.2 fun e=>h1 (k1.2 e)
  rw[if_neg h1,h2]
  by_cases h3:mk3 s p t 46=true
  ·rw[if_pos h3,k2.1 h3]
   refine ⟨by simp,by simp⟩
  ·have h4:m3B s p 46=false:=Bool.eq_false_iff.2 fun e=>h3 (k2.2 e)
   rw[if_neg h3,h4]
   constructor
   ·constructor
    ·intro e;split at e <;> (try split at e) <;> omega
    ·intro e;cases e
   ·constructor
    ·intro e;split at e <;> (try split at e) <;> omega
    ·rintro ⟨_,e⟩;cases e
set_option maxRecDepth 100000 in
theorem trOver_is (q:Bool) (h:TrAt g s p v w) (hs:s.size≤10000) (hp:p≤s.size) (hq:overB s p=q):Calls Tryz.prog 21 #[.pointer (some ⟨g,0,none⟩)] w fun e w'=>e=.returned (.bool q)∧∃ k,w'=w.drewN k:=by
 obtain ⟨a,ha⟩:=RowB.ex s p
 obtain ⟨t,ht⟩:=RowE.ex s p hp
 obtain ⟨f,hf⟩:=FirN.ex s a t (Nat.le_trans ha.1 ht.1)
 obtain ⟨kd,hk⟩:∃ kd,kindN s a t f=kd:=⟨_,rfl⟩
 have CK:∀ W,Calls Tryz.prog 39 #[.string s,.int .i64 (p:Int)] W fun e w'=>e=.returned (.int .i64 kd)∧W=w':=fun W=>
  rowsKind_is kd a t f s (p:Int) W (by omega) (by rw[clampN_self _ _ hp];exact ha) (by rw[clampN_self _ _ hp];exact ht) hf hk
 have CC:=fun W H=>trCol_is g s p v W H hs hp
 have H:=Lib.hid h
 have hc:=h.cell
 clear h
 by_cases hps:p=s.size
 ·have e1:((p:Int)==(s.size:Int))=true:=by rw[beq_iff_eq];omega
  have:q=true:=by rw[←hq];unfold overB;rw[decide_eq_true (by omega),Bool.true_or]
  subst this
  clear hq hps CK CC hk hf ha ht
  go_enter Tryz.func21,Tryz.ntmps21
  go_wp2_with fail
  go_quiet (fail)
  go_wp2
  go_ret
  exact ⟨rfl,_,rfl⟩
 ·have e1:((p:Int)==(s.size:Int))=false:=by rw[beq_eq_false_iff_ne];omega
  obtain ⟨c,hcc⟩:∃ c,colF s p=c:=⟨_,rfl⟩
  rw[hcc] at CC
  have hcb:(c=0↔row0B s p=true):=by
   have h1:=colF_rowB ha
   rw[hcc] at h1
   unfold row0B
   rw[decide_eq_true_eq]
   constructor
   ·intro e
    have e2:a=p:=by have:=ha.1;omega
    rw[e2] at ha
    exact ha.2.2
   ·intro e
    rcases e with e|e
    ·have:=ha.1;omega
    ·refine Decidable.byContradiction fun hn=>?_
     have h2:=ha.1
     exact ha.2.1 (p-1) (by omega) (by omega) e
  have hq2:q=(decide (c=0)&&(decide (kd=3)||decide (kd=4))):=by
   rw[←hq]
   unfold overB
   rw[decide_eq_false (by omega),Bool.false_or]
   by_cases h0:c=0
   ·rw[hcb.1 h0,decide_eq_true h0,Bool.true_and,Bool.true_and]
    have e2:a=p:=by have h1:=colF_rowB ha;have:=ha.1;omega
    subst e2
    obtain ⟨k1,k2⟩:=kind_m3 (q:=f) ht
    rw[hk] at k1 k2
    rw[Bool.eq_iff_iff,Bool.or_eq_true,Bool.or_eq_true,decide_eq_true_eq,decide_eq_true_eq,k1,k2]
    cases m3B s a 45 <;> simp
   ·rw[decide_eq_false h0,Bool.false_and,Bool.eq_false_iff.2 (fun e=>h0 (hcb.2 e)),Bool.false_and]
  clear hq hps hcb hk hf ha ht hcc
  by_cases h0:c=0
  ·subst h0
   rw[decide_eq_true rfl,Bool.true_and] at hq2
   have e2:(((0:Nat):Int)==0)=true:=by decide
   by_cases h3:kd=3
   ·subst h3
    have:q=true:=by rw[hq2];rfl
    subst this
    clear hq2
    go_enter Tryz.func21,Tryz.ntmps21
    go_wp2_with fail
    go_quiet (fail)
    go_wp2_with fail
    obtain ⟨w1,hw1⟩:∃ w1,w1=w.drewN nq:=⟨_,rfl⟩
    have H1:TrAt g s p v w1:=by rw[hw1];exact H.out.drewN nq
    have hc1:=H1.cell
    have HH:=Lib.hid H1
    rw[←hw1]
    have HW:=Lib.hid hw1
    clear hw1 H1 hc
    go_quiet (first|exact Calls.quiet_of_same ((CK _).mono (by rintro e w' ⟨rfl,rfl⟩;exact ⟨rfl,rfl⟩)))
    go_wp2_with fail
    refine (CC _ (HH.out.drewN _)).mono ?_
    rintro e w1 ⟨rfl,k,rfl⟩
    go_wp2
    go_ret
    exact ⟨rfl,_,by rw[HW.out,World.drewN_drewN]⟩
   ·by_cases h4:kd=4
    ·subst h4
     have:q=true:=by rw[hq2];rfl
     subst this
     clear hq2
     go_enter Tryz.func21,Tryz.ntmps21
     go_wp2_with fail
     go_quiet (fail)
     go_wp2_with fail
     obtain ⟨w1,hw1⟩:∃ w1,w1=w.drewN nq:=⟨_,rfl⟩
     have H1:TrAt g s p v w1:=by rw[hw1];exact H.out.drewN nq
     have hc1:=H1.cell
     have HH:=Lib.hid H1
     rw[←hw1]
     have HW:=Lib.hid hw1
     clear hw1 H1 hc
     go_quiet (first|exact Calls.quiet_of_same ((CK _).mono (by rintro e w' ⟨rfl,rfl⟩;exact ⟨rfl,rfl⟩)))
     go_wp2_with fail
     refine (CC _ (HH.out.drewN _)).mono ?_
     rintro e w1 ⟨rfl,k,rfl⟩
     go_wp2
     go_ret
     exact ⟨rfl,_,by rw[HW.out,World.drewN_drewN]⟩
    ·have:q=false:=by rw[hq2,decide_eq_false h3,decide_eq_false h4];rfl
     subst this
     have e3:(kd==3)=false:=by rw[beq_eq_false_iff_ne];exact h3
     have e4:(kd==4)=false:=by rw[beq_eq_false_iff_ne];exact h4
     clear hq2 h3 h4
     go_enter Tryz.func21,Tryz.ntmps21
     go_wp2_with fail
     go_quiet (fail)
     go_wp2_with fail
     obtain ⟨w1,hw1⟩:∃ w1,w1=w.drewN nq:=⟨_,rfl⟩
     have H1:TrAt g s p v w1:=by rw[hw1];exact H.out.drewN nq
     have hc1:=H1.cell
     have HH:=Lib.hid H1
     rw[←hw1]
     have HW:=Lib.hid hw1
     clear hw1 H1 hc
     go_quiet (first|exact Calls.quiet_of_same ((CK _).mono (by rintro e w' ⟨rfl,rfl⟩;exact ⟨rfl,rfl⟩)))
     go_wp2_with fail
     refine (CC _ (HH.out.drewN _)).mono ?_
     rintro e w1 ⟨rfl,k,rfl⟩
     go_wp2
     go_ret
     exact ⟨rfl,_,by rw[HW.out,World.drewN_drewN]⟩
  ·have:q=false:=by rw[hq2,decide_eq_false h0];rfl
   subst this
   have e2:((c:Int)==0)=false:=by rw[beq_eq_false_iff_ne];omega
   clear hq2 h0
   go_enter Tryz.func21,Tryz.ntmps21
   go_wp2_with fail
   go_quiet (fail)
   go_wp2_with fail
   obtain ⟨w1,hw1⟩:∃ w1,w1=w.drewN nq:=⟨_,rfl⟩
   have H1:TrAt g s p v w1:=by rw[hw1];exact H.out.drewN nq
   have hc1:=H1.cell
   have HH:=Lib.hid H1
   rw[←hw1]
   have HW:=Lib.hid hw1
   clear hw1 H1 hc
   go_quiet (first|exact Calls.quiet_of_same ((CK _).mono (by rintro e w' ⟨rfl,rfl⟩;exact ⟨rfl,rfl⟩)))
   go_wp2_with fail
   refine (CC _ (HH.out.drewN _)).mono ?_
   rintro e w1 ⟨rfl,k,rfl⟩
   go_wp2
   go_ret
   exact ⟨rfl,_,by rw[HW.out,World.drewN_drewN]⟩
set_option maxRecDepth 100000 in
theorem trTake_is (h:TrAt g s p v w):Calls Tryz.prog 23 #[.pointer (some ⟨g,0,none⟩)] w fun e w'=>e=.returned v∧w'=w.setCell ⟨g,2,none⟩ (.slice none 0 0):=by
 have hc:=h.cell
 have hz:=h.free
 clear h
 go_enter Tryz.func23,Tryz.ntmps23
 go_wp2
 go_ret
 exact ⟨rfl,rfl⟩
set_option maxRecDepth 100000 in
theorem trBelow_is (fro:Nat) (h:TrAt g s p v w) (hf:fro≤p) (hp:p≤s.size):Calls Tryz.prog 68 #[.pointer (some ⟨g,0,none⟩),.int .i64 (fro:Int)] w fun e w'=>e=.returned (.bool (!(sameRow s fro p)))∧∃ k,w'=w.drewN k:=by
 have CC:∀ W,Calls Tryz.prog 113 #[.string (s.extract fro p),.string ⟨#[10]⟩] W fun e w'=>e=.returned (.bool !(sameRow s fro p))∧w'=W:=fun W=>by
  have h1:=Tryz.strings_Contains_one (s.extract fro p) 10 W
  rw[lf_in hf hp] at h1
  exact h1
 have i1:(fro:Int)≤(p:Int):=by omega
 have i2:(p:Int)≤(s.size:Int):=by omega
 have hc:=h.cell
 clear h
 go_enter Tryz.func68,Tryz.ntmps68
 go_wp2_with fail
 go_quiet (first|exact Calls.quiet_of_same ((CC _).mono (by rintro e w' ⟨rfl,rfl⟩;exact ⟨rfl,rfl⟩)))
 go_wp2
 go_ret
 exact ⟨rfl,_,rfl⟩
end
end Go.Proofs.YtafhgbokdfhapaaGreatDoor
