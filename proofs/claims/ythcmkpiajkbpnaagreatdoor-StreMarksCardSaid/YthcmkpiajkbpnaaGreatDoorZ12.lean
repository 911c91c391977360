/- Parts of the proof, put together from smaller texts (blanks that Lean does not want are struck). Conditions: those that each theorem writes out. -/
import Derived.BigQuiet
import Derived.Deep.DeepCutAuto
import Derived.Deep.DrawnRows
import Derived.Deep.LoopGhost
import Derived.Deep.RegionHeld3
import Derived.Deep.RegionWith
import Derived.Test.YthcmkpiajkbpnaaGreatDoorZ00
import Derived.Test.YthcmkpiajkbpnaaGreatDoorZ01
import Derived.Test.YthcmkpiajkbpnaaGreatDoorZ08
import Derived.Test.YthcmkpiajkbpnaaGreatDoorZ11
namespace Go.Proofs.YthcmkpiajkbpnaaGreatDoor
open Go.RowKit
theorem NZ.nw {s:ByteArray} {wi:Bool} {n:Int} {a:Nat} {sm:Bool} {L:Coms} {S:Bool} {E:Nat} {C:Int} {p:Nat} {m f:Bool} {o:Coms} {b:Bool} (h:NZ s wi n a sm L S E C p m f o b):C=0→E<s.size→U.white (byt s E:Int)=false:=by
 induction h with
 | over h1 _ _ e _=>intro _ h;omega
 | @mark p t q f o b h1 ht hq hk _ _ _ e _=>
  intro _ _
  subst e
  have h0:byt s E=45∨byt s E=46:=by
   by_cases h1:mk3 s E t 45=true
   ·unfold mk3 at h1
    rw[decide_eq_true_eq] at h1
    exact .inl h1.2.1
   ·by_cases h2:mk3 s E t 46=true
    ·unfold mk3 at h2
     rw[decide_eq_true_eq] at h2
     exact .inr h2.2.1
    ·unfold kindN at hk
     rw[if_neg h1,if_neg h2] at hk
     exfalso
     split at hk
     ·omega
     ·split at hk <;> omega
  rcases h0 with h0|h0 <;> rw[h0] <;> decide
 | markX _ _ _ _ _ _ _ _ _ e=>intro h;omega
 | tab _ _ _ _ _ _ _ _ _ e=>intro h;omega
 | far _ _ _ _ _ _ _ _ _ _ _ e=>intro h;omega
 | met _ _ _ _ _ _ _ _ _ ih=>exact ih
 | white _ _ _ ih=>exact ih
 | lf _ _ _ ih=>exact ih
 | com _ _ _ _ _ _ ih=>exact ih
 | stop _ hw _ _ _ _ e _=>intro _ _;subst e;exact hw
theorem pass_nw {s:ByteArray} {p:Nat} {b:Coms × Bool × Nat} (h:passR s p (.ok b)) (hb:b.2.2<s.size):U.white (byt s b.2.2:Int)=false:=by
 obtain ⟨L,S,E,C,hZ,e⟩:=h
 split at e
 ·rename_i hC
  injection e with e
  subst e
  obtain ⟨r0,E',_,rfl,hN⟩:=hZ
  exact hN.nw hC (by simpa using hb)
 ·cases e
theorem key_colon {s:ByteArray} {p q:Nat} (h:KeyR s p (some q)):∃ t e,RowE s p t∧colonR s t e (some q):=by
 unfold KeyR at h
 split at h
 ·cases h
 ·obtain ⟨t,A,T,E,C,ht,_,h⟩:=h
  split at h
  ·cases h
  ·obtain ⟨q0,_,h⟩:=h
   split at h
   ·exact ⟨_,_,ht,h⟩
   ·split at h
    ·split at h
     ·cases h
     ·obtain ⟨_,_,_,_,h⟩:=h
      split at h
      ·cases h
      ·exact ⟨_,_,ht,h⟩
    ·split at h
     ·obtain ⟨_,_,_,_,_,h⟩:=h
      split at h
      ·cases h
      ·exact ⟨_,_,ht,h⟩
     ·split at h
      ·obtain ⟨x,_,_,_,h⟩:=h
       cases x with
       | none=>cases h
       | some x=>exact ⟨_,_,ht,h⟩
      ·split at h
       ·obtain ⟨_,_,h⟩:=h
        exact ⟨_,_,ht,h⟩
       ·exact ⟨_,_,ht,h⟩
theorem key_row {s:ByteArray} {p q:Nat} (h:KeyR s p (some q)):sameRow s p (q+1)=true:=by
 obtain ⟨t,e,ht,hc⟩:=key_colon h
 have h1:=colon_far hc
 have h58:=isB_lt (show isB s q 58=true by have:=h1.2.2;unfold markB at this;rw[Bool.and_eq_true] at this;exact this.1)
 refine sameRow_iff.2 fun j j1 j2=>?_
 by_cases hj:j=q
 ·rw[hj,h58.2];decide
 ·exact ht.2.2.1 j (by omega) j2
theorem plain_key {s:ByteArray} {q e c:Nat} (hb:begB s (q:Int) false=true) (hP:ParN s false q e) (hw:WhN s e c) (hc:markB s c 58=true):PlaiZ s (q:Int) (-1) false (pieceL s q e) (e:Int) true 0:=by
 unfold PlaiZ
 rw[if_neg (by rw[hb];decide)]
 refine ⟨e,rfl,fun e' he'=>?_⟩
 rw[Int.toNat_natCast] at he' ⊢
 have e1:e'=e:=he'.uniq hP
 subst e1
 intro t f ht hf
 have hcl:=mark_lt hc
 have h58:=isB_lt (show isB s c 58=true by unfold markB at hc;rw[Bool.and_eq_true] at hc;exact hc.1)
 have hct:c<t:=by
  refine Decidable.byContradiction fun hn=>?_
  rcases ht.2.2.2 with h|h
  ·omega
  ·by_cases htc:t=c
   ·rw[htc,h58.2] at h;cases h
   ·have:=hw.2 t (by omega) ht.1
    rw[h] at this
    cases this
 have hfc:f≤c:=by
  refine Decidable.byContradiction fun hn=>?_
  have:=hf.2.2.1 c (by omega) hw.1
  rw[h58.2] at this
  cases this
 rw[if_pos (.inl (by omega))]
 exact ⟨((congrArg (fun z=>pieceL s q e'++z) (U.flowGo_nil 0)).trans (List.append_nil _)).symm,rfl,rfl,rfl⟩
theorem over_mark {s:ByteArray} {q c:Nat} (h:overB s q=true) (hc:c=45∨c=58):markB s q c=false:=by
 unfold overB at h
 rw[Bool.or_eq_true,decide_eq_true_eq,Bool.and_eq_true,Bool.or_eq_true] at h
 unfold markB
 rcases h with h|⟨_,h⟩
 ·unfold isB
  rw[decide_eq_false (by omega),Bool.false_and]
 ·unfold m3B at h
  rw[Bool.and_eq_true,Bool.and_eq_true,Bool.and_eq_true,Bool.and_eq_true] at h
  rcases h with ⟨h1,h2,_⟩|⟨h1,_⟩
  ·have h1:=isB_lt h1
   have h2:=isB_lt h2
   rcases hc with rfl|rfl
   ·rw[endsB_in s _ h2.1,h2.2,show U.endc ((45:Nat):Int)=false by decide,Bool.and_false]
   ·rw[isB_no (by rw[h1.2];decide),Bool.false_and]
  ·have h1:=isB_lt h1
   rw[isB_no (by rw[h1.2];rcases hc with rfl|rfl <;> decide),Bool.false_and]
section
variable {s:ByteArray} {blk blk':Nat→Nat→Rd Tre→Prop}
theorem cont_star {k:Spt} {q:Nat} {o:Rd Tre} (h:contT s k true q o) (h42:isB s q 42=true):o=.bad q 5:=by
 rcases h with ⟨r,e,h1,rfl⟩|⟨x,h1,_⟩
 ·unfold leafR at h1
  rw[if_pos h42,if_pos rfl] at h1
  injection h1 with h1 h2
  rw[h1,h2]
 ·unfold leafR at h1
  rw[if_pos h42,if_pos rfl] at h1
  cases h1
theorem leaf_prop {n:Int} {d q:Nat} (h:isB s q 38=true∨isB s q 33=true):leafR s n d false q (.bad q 5)∧isB s q 42=false:=by
 have hb:byt s q=38∨byt s q=33:=h.imp (fun h=>(isB_lt h).2) fun h=>(isB_lt h).2
 have no:∀ c,c≠38→c≠33→isB s q c=false:=fun c h1 h2=>isB_no (by rcases hb with e|e <;> rw[e];exact fun e=>h1 e.symm;exact fun e=>h2 e.symm)
 refine ⟨?_,no 42 (by decide) (by decide)⟩
 unfold leafR
 rw[no 42 (by decide) (by decide),no 34 (by decide) (by decide),no 39 (by decide) (by decide),no 91 (by decide) (by decide),no 123 (by decide) (by decide),no 124 (by decide) (by decide),no 62 (by decide) (by decide),if_neg (by decide),if_neg (by decide),if_neg (by decide),if_neg (by decide),if_neg]
 intro hbg
 obtain ⟨_,_,_,h4,_⟩:=beg_not hbg
 rcases hb with e|e
 ·exact h4 38 (by simp) e
 ·exact h4 33 (by simp) e
theorem miss_of {b:Nat} {n:Int} {q:Nat} (h1:overB s q=false) (h2:n<(colF s q:Int)):missP s b n q=false:=by
 unfold missP
 rw[h1,Bool.false_or,if_neg (by rintro ⟨h,_⟩;omega),decide_eq_false (by omega)]
def GivB (s:ByteArray) (blk blk':Nat→Nat→Rd Tre→Prop):Prop:=∀ deep p o,blk deep p o→p<s.size→U.white (byt s p:Int)=false→∃ o',blk' deep p o'∧FelB s p o o'
theorem beg_fel (hg:GivB s blk blk') {b:Nat} {n:Int} {d fro p:Nat} {o:Rd Tre} (hb5:b≤5) (h0:b≤1→n=-1) (hm:missP s b n p=false) (hw:U.white (byt s p:Int)=false) (h:begT s blk (sptP b n d) fro p o) :
  ∃ o',bgnP s blk' b n d fro p o'∧Fel s n (·.2.2) o o':=by
 obtain ⟨hov,hc⟩:=miss_no hm
 have hlt:=over_lt hov
 obtain ⟨op,ho,h⟩:=h
 cases op with
 | true=>
  rw[if_pos rfl] at h
  by_cases h1:b=0∨sameRow s fro p=false
  ·rw[if_pos (h1.imp (fun e=>by rw[e];rfl) id)] at h
   obtain ⟨o',g1,g2⟩:=hg _ _ _ h hlt hw
   exact ⟨o',⟨true,ho,by rw[if_pos rfl,if_pos h1];exact g1⟩,g2.node hc⟩
  ·have h1':=not_or.1 h1
   rw[if_neg (by rintro (e|e);exact h1 (.inl (of_decide_eq_true e));exact h1 (.inr e))] at h
   by_cases h2:b=1∨b=5
   ·rw[if_pos (show (sptP b n d).opens=false from decide_eq_false (by omega))] at h
    subst h
    exact ⟨_,⟨true,ho,by rw[if_pos rfl,if_neg h1,if_pos h2]⟩,.inl rfl⟩
   ·have h1a:=h1'.1
    rw[if_neg (by rw[show (sptP b n d).opens=true from decide_eq_true (by omega)];decide)] at h
    rcases h with ⟨i,hi,rfl⟩|⟨hn,h⟩
    ·exact ⟨_,⟨true,ho,by rw[if_pos rfl,if_neg h1,if_neg h2];exact .inl ⟨i,hi,rfl⟩⟩,.inl rfl⟩
    ·obtain ⟨o',g1,g2⟩:=hg _ _ _ h hlt hw
     exact ⟨o',⟨true,ho,by rw[if_pos rfl,if_neg h1,if_neg h2];exact .inr ⟨hn,g1⟩⟩,g2.node hc⟩
 | false=>
  rw[if_neg (by decide)] at h
  obtain ⟨A,T,E,C,hP,h⟩:=h
  by_cases hC:C≠0
  ·rw[if_pos hC] at h
   subst h
   exact ⟨_,⟨false,ho,by rw[if_neg (by decide)];exact ⟨A,T,E,C,hP,by rw[if_pos hC]⟩⟩,.inl rfl⟩
  ·rw[if_neg hC] at h
   by_cases hE:E=(p:Int)
   ·rw[if_pos hE] at h
    obtain ⟨o',g1,g2⟩:=cont_fel h (fun e=>by cases e)
    exact ⟨o',⟨false,ho,by rw[if_neg (by decide)];exact ⟨A,T,E,C,hP,by rw[if_neg hC,if_pos hE];exact g1⟩⟩,g2⟩
   ·rw[if_neg hE] at h
    obtain ⟨E',rfl,e1,e2⟩:=hP.far_le (Nat.le_of_lt hlt)
    rw[Int.toNat_natCast] at h
    have hrow:=hP.row (by omega) (Nat.le_of_lt hlt)
    rw[Int.toNat_natCast] at hrow
    have hnp:n<(colF s p:Int):=by
     rcases hc with hc|⟨_,hc⟩
     ·exact hc
     ·unfold OpenR at ho
      rw[if_pos (.inl hc)] at ho
      cases ho
    have hce:=colF_row E' e1 hrow
    suffices hmain:∀ o1:Rd (Tre × Coms),(∃ t q,FirR s E' t q ∧
      if q<t∧byt s q≠35 then passR s E' (.ok ([],false,q))∧overB s q=false∧andR (contT s (sptP b n d) true q) (fun x o=>o=.ok (x,[])) o1
      else andR (passR s E') (fun l o=>(l.2.2<s.size→sameRow s E' l.2.2=false) ∧
       if noneB s (sptP b n d).n false (sptP b n d).flat E' l.2.2=true then o=.ok (emptyT (sptP b n d).key l.1 l.2.1 l.2.2,[])
       else ∃ op,OpenR s l.2.2 op ∧
        if op=true then andR (blk (sptP b n d).deep l.2.2) (fun x o=>o=.ok (x,l.1)) o
        else if isB s l.2.2 38=true∨isB s l.2.2 33=true then o=.bad l.2.2 5
        else andR (contT s (sptP b n d) true l.2.2) (fun x o=>o=.ok (x,l.1)) o) o1) →
      ∃ o2,andR (passR s E') (fun l o=>if missP s b n l.2.2=true then o=.ok (emptyT (decide (b=3)) l.1 l.2.1 l.2.2,[]) else ownP s blk' n d E' l o) o2∧Fel s n (fun x:Tre × Coms=>x.1.2.2) o1 o2 by
     obtain ⟨o',g1,g2⟩:=Fel.map (bt:=fun x:Tre=>x.2.2) (fun x:Tre × Coms=>(x.1.1.withHead A T p x.2,x.1.2)) (fun _=>rfl) hmain h
     refine ⟨o',⟨false,ho,?_⟩,g2⟩
     rw[if_neg (by decide)]
     exact ⟨A,T,_,C,hP,by rw[if_neg hC,if_neg hE,Int.toNat_natCast];exact g1⟩
    rintro o1 ⟨t,q,hF,h⟩
    have own:∀ (l:Coms × Bool × Nat) (o1:Rd (Tre × Coms)),andR (contT s (sptP b n d) true l.2.2) (fun x o=>o=.ok (x,l.1)) o1→∃ o2,ownC s n d l o2∧Fel s n (fun x:Tre × Coms=>x.1.2.2) o1 o2:=fun l o1 ho1=>by
     unfold ownC
     by_cases h42:isB s l.2.2 42=true
     ·simp only[if_pos h42]
      refine ⟨_,rfl,?_⟩
      rcases ho1 with ⟨r,e,h1,rfl⟩|⟨x,h1,rfl⟩
      ·have:=cont_star h1 h42
       injection this with t1 t2
       subst t1 t2
       exact .inl rfl
      ·have:=cont_star h1 h42
       cases this
     ·simp only[if_neg h42]
      exact Fel.map (at':=fun x:Tre=>x.2.2) (bt:=fun x:Tre × Coms=>x.1.2.2) (fun x=>(x,l.1)) (fun _=>rfl) (fun o ho=>cont_fel ho (fun _=>by simpa using h42)) ho1
    by_cases hq:q<t∧byt s q≠35
    ·rw[if_pos hq] at h
     obtain ⟨hp,hov2,h⟩:=h
     have hqe:E'≤q:=hF.2.1
     have hrq:sameRow s E' q=true:=sameRow_iff.2 fun j j1 j2=>by
      have:=hF.2.2.2.1 j j1 j2
      intro e
      rw[e] at this
      cases this
     have hcq:=colF_row q hqe hrq
     obtain ⟨o2,g1,g2⟩:=own ([],false,q) o1 h
     refine ⟨o2,.ok hp ?_,g2⟩
     rw[if_neg (by rw[miss_of hov2 (by omega)];decide)]
     unfold ownP
     rw[if_neg (by rw[hrq];decide)]
     exact g1
    ·rw[if_neg hq] at h
     rcases h with ⟨r,e,h1,rfl⟩|⟨l,h1,hsr,h⟩
     ·exact ⟨_,.bad h1,.inl rfl⟩
     ·have hfar:=pass_far h1 e2
      rw[none_miss (by omega) h0 hfar.1 false (fun e=>by cases e)] at h
      by_cases hmi:missP s b n l.2.2=true
      ·rw[if_pos hmi] at h
       subst h
       exact ⟨_,.ok h1 (by rw[if_pos hmi];rfl),rfl⟩
      ·rw[if_neg hmi] at h
       obtain ⟨hov2,hc2⟩:=miss_no (Bool.eq_false_iff.2 hmi)
       have hl2:=over_lt hov2
       have hs2:=hsr hl2
       obtain ⟨op2,ho2,h⟩:=h
       have put:∀ o2,ownP s blk' n d E' l o2→andR (passR s E') (fun l o=>if missP s b n l.2.2=true then o=.ok (emptyT (decide (b=3)) l.1 l.2.1 l.2.2,[]) else ownP s blk' n d E' l o) o2:=fun o2 h2=>.ok h1 (by rw[if_neg hmi];exact h2)
       cases op2 with
       | true=>
        rw[if_pos rfl] at h
        obtain ⟨o2,g1,g2⟩:=Fel.map (at':=fun x:Tre=>x.2.2) (n:=n) (bt:=fun x:Tre × Coms=>x.1.2.2) (m':=blk' d l.2.2) (fun x=>(x,l.1)) (fun _=>rfl) (fun o ho=>by
         obtain ⟨o',k1,k2⟩:=hg _ _ _ ho hl2 (pass_nw h1 hl2)
         exact ⟨o',k1,k2.node hc2⟩) h
        exact ⟨o2,put _ (by unfold ownP;rw[if_pos hs2];exact ⟨true,ho2,by rw[if_pos rfl];exact g1⟩),g2⟩
       | false=>
        rw[if_neg (by decide)] at h
        by_cases hpr:isB s l.2.2 38=true∨isB s l.2.2 33=true
        ·rw[if_pos hpr] at h
         subst h
         obtain ⟨k1,k2⟩:=leaf_prop (n:=n) (d:=d) hpr
         refine ⟨.bad l.2.2 5,put _ (by
          unfold ownP
          rw[if_pos hs2]
          refine ⟨false,ho2,?_⟩
          rw[if_neg (by decide)]
          unfold ownC
          rw[if_neg (by rw[k2];decide)]
          exact .bad (.bad k1)),.inl rfl⟩
        ·rw[if_neg hpr] at h
         obtain ⟨o2,g1,g2⟩:=own l o1 h
         exact ⟨o2,put _ (by unfold ownP;rw[if_pos hs2];exact ⟨false,ho2,by rw[if_neg (by decide)];exact g1⟩),g2⟩
theorem nod_fel (hg:GivB s blk blk') {b:Nat} {n:Int} {d p:Nat} {o:Rd Tre} (hb5:b≤5) (h0:b≤1→n=-1) (hn:n<(colF s p:Int)) (hp:p≤s.size) (h:nodT s blk (sptP b n d) p o) :
  ∃ o',nodP s blk' b n d p o'∧Fel s n (·.2.2) o o':=by
 rcases h with ⟨r,e,h1,rfl⟩|⟨l,h1,h⟩
 ·exact ⟨_,.bad h1,.inl rfl⟩
 ·have hfar:=pass_far h1 hp
  rw[none_miss (b:=b) (d:=d) hn h0 hfar.1 (sptP b n d).bare (fun e=>of_decide_eq_true e)] at h
  by_cases hmi:missP s b n l.2.2=true
  ·rw[if_pos hmi] at h
   subst h
   exact ⟨_,.ok h1 (by rw[if_pos hmi];rfl),rfl⟩
  ·rw[if_neg hmi] at h
   have hm:=Bool.eq_false_iff.2 hmi
   have hl:=over_lt (miss_no hm).1
   obtain ⟨o',g1,g2⟩:=Fel.map (bt:=fun x:Tre=>x.2.2) (fun x:Tre=>(x.1.withLead (l.1++x.1.h.lead),x.2)) (fun _=>rfl) (fun o ho=>beg_fel hg hb5 h0 hm (pass_nw h1 hl) ho) h
   exact ⟨o',.ok h1 (by rw[if_neg hmi];exact g1),g2⟩
theorem col_step {p c:Nat} (h:byt s p=c) (hc:c≠10):colF s (p+1)=colF s p+1:=by
 show (if byt s p=10 then 0 else colF s p+1)=_
 rw[if_neg (by rw[h];exact hc)]
theorem mark_col {p c:Nat} (h:markB s p c=true) (hc:c≠10):colF s (p+1)=colF s p+1:=by
 unfold markB at h
 rw[Bool.and_eq_true] at h
 exact col_step (isB_lt h.1).2 hc
theorem seq_fel (hg:GivB s blk blk') {c deep p:Nat} {lead:Coms} {kids:List NT} {o:Rd (List NT × Coms × Nat)} (h:SeqT s blk c deep o p lead kids):markB s p 45=true→colF s p=c →
  ∃ o',SeqP s blk' c deep o' p lead kids∧Fel s (c:Int) (·.2.2) o o':=by
 induction h with
 | @bad p lead kids q e h1 h2=>
  intro hm hc
  have h3:(c:Int)<(colF s (p+1):Int):=by rw[mark_col hm (by decide)];omega
  obtain ⟨o',g1,g2⟩:=nod_fel hg (b:=2) (by decide) (by omega) h3 (mark_lt hm) h1
  subst h2
  rcases g2 with rfl|⟨rfl,x,rfl,rfl,g3,g4⟩
  ·exact ⟨_,.bad g1 rfl,.inl rfl⟩
  ·obtain ⟨k,m,hA⟩:=Abv.ex s p
   have g4:(c:Int)<(colF s x.2.2:Int):=g4
   exact ⟨_,.stop g1 hA (.inl (by omega)) rfl,.inr ⟨rfl,_,rfl,rfl,g3,g4⟩⟩
 | @over p lead kids x m k h1 hA h2 h3=>
  intro hm hc
  have h4:(c:Int)<(colF s (p+1):Int):=by rw[mark_col hm (by decide)];omega
  obtain ⟨o',g1,g2⟩:=nod_fel hg (b:=2) (by decide) (by omega) h4 (mark_lt hm) h1
  cases g2
  subst h3
  refine ⟨_,.stop g1 hA ?_ rfl,rfl⟩
  rcases h2 with h2|⟨h2,h3|h3⟩
  ·exact .inr (over_mark h2 (.inl rfl))
  ·exact .inl (by omega)
  ·exact .inr h3
 | @far p lead kids x h1 h2 h3 h4=>
  intro hm hc
  have h5:(c:Int)<(colF s (p+1):Int):=by rw[mark_col hm (by decide)];omega
  obtain ⟨o',g1,g2⟩:=nod_fel hg (b:=2) (by decide) (by omega) h5 (mark_lt hm) h1
  cases g2
  subst h4
  obtain ⟨k,m,hA⟩:=Abv.ex s p
  exact ⟨_,.stop g1 hA (.inl (by omega)) rfl,.inr ⟨rfl,_,rfl,rfl,h2,by omega⟩⟩
 | @go p lead kids x m k h1 hA h2 h3 h4 _ ih=>
  intro hm hc
  have h5:(c:Int)<(colF s (p+1):Int):=by rw[mark_col hm (by decide)];omega
  obtain ⟨o',g1,g2⟩:=nod_fel hg (b:=2) (by decide) (by omega) h5 (mark_lt hm) h1
  cases g2
  obtain ⟨o2,k1,k2⟩:=ih h4 h3
  exact ⟨o2,.go g1 hA h3 h4 k1,k2⟩
theorem impl_fel {deep p:Nat} {o:Rd (NT × Nat)} (hp:p<s.size) (hw:U.white (byt s p:Int)=false) (h:implR s deep p o):implP s deep p o∧∀ x,o=.ok x→sameRow s p (x.2+1)=true∧p≤x.2∧x.2<s.size:=by
 obtain ⟨colon,A,T,E,C,q,hK,hP,hq,h58,h42,h⟩:=h
 have hkf:=key_far hK
 have hkr:=key_row hK
 have h58c:=isB_lt (show isB s colon 58=true by have:=hkf.2.2;unfold markB at this;rw[Bool.and_eq_true] at this;exact this.1)
 have hcw:U.white (byt s colon:Int)=false:=by rw[h58c.2];decide
 obtain ⟨E',rfl,e1,e2⟩:=hP.far_le (Nat.le_of_lt hp)
 rw[Int.toNat_natCast] at hq h42
 have hqc:WhN s E' q∧q≤colon∧U.white (byt s q:Int)=false:=by
  split at hq
  ·obtain ⟨g1,g2,g3,g4⟩:=hq
   refine ⟨⟨g1,g3⟩,g2,?_⟩
   rcases g4 with rfl|g4
   ·exact hcw
   ·exact g4
  ·have:E'=p:=by omega
   subst this hq
   exact ⟨⟨Nat.le_refl _,fun j j1 j2=>by omega⟩,hkf.1,hw⟩
 obtain ⟨hq1,hq2,hq3⟩:=hqc
 have hqs:q<s.size:=by omega
 refine ⟨⟨A,T,_,C,q,hP,by rw[Int.toNat_natCast];exact e1,by rw[Int.toNat_natCast],by rw[Int.toNat_natCast];exact hq1,hqs,hq3,?_⟩,?_⟩
 ·rw[Int.toNat_natCast] at h ⊢
  have leaf:∀ o,leafR s (-1) deep (decide (p<E')) q o→leafR s (-1) deep false q o:=fun o ho=>by
   by_cases hpE:p<E'
   ·have h9:=h42 hpE
    unfold leafR at ho ⊢
    rw[if_neg (by rw[h9];decide)] at ho ⊢
    exact ho
   ·rw[decide_eq_false hpE] at ho
    exact ho
  by_cases hqc:q<colon
  ·have hm:=h58 hqc
   rcases h with ⟨r,e,h,rfl⟩|⟨x,h,rfl⟩
   ·rw[if_pos hqc] at h
    refine .bad ?_
    rw[if_neg (by rw[hm];decide)]
    split at h
    ·obtain ⟨_,_,_,h⟩:=h;cases h
    ·rcases h with ⟨r,e,h,h2⟩|⟨y,h,_,h2⟩
     ·cases h2
      exact .bad (leaf _ h)
     ·cases h2
   ·rw[if_pos hqc] at h
    refine .ok (x:=(x,colon)) ?_ rfl
    rw[if_neg (by rw[hm];decide)]
    split at h
    ·rename_i hb
     obtain ⟨e,hPa,hWh,h⟩:=h
     injection h with h
     subst h
     refine .ok (x:=(.mk ⟨1,1,q,0,[],[],pieceL s q e,[],[],false,[]⟩ [],e)) ?_ ⟨colon,hWh,hkf.2.1,hcw,rfl⟩
     obtain ⟨_,_,_,k4,_⟩:=beg_not hb
     unfold leafR
     rw[isB_no (k4 42 (by simp)),isB_no (k4 34 (by simp)),isB_no (k4 39 (by simp)),isB_no (k4 91 (by simp)),isB_no (k4 123 (by simp)),isB_no (k4 124 (by simp)),isB_no (k4 62 (by simp)),if_neg (by decide),if_neg (by decide),if_neg (by decide),if_neg (by decide),if_pos hb]
     exact ⟨_,_,true,0,plain_key hb hPa hWh hkf.2.2,by rw[if_pos rfl,Int.toNat_natCast]⟩
    ·rcases h with ⟨r,e,h,h2⟩|⟨y,h,hWh,h2⟩
     ·cases h2
     ·cases h2
      exact .ok (leaf _ h) ⟨colon,hWh,hkf.2.1,hcw,rfl⟩
  ·have:q=colon:=by omega
   subst this
   rcases h with ⟨r,e,h,rfl⟩|⟨x,h,rfl⟩
   ·rw[if_neg hqc] at h
    cases h
   ·rw[if_neg hqc] at h
    injection h with h
    subst h
    exact .ok (x:=(voidN,q)) (by rw[if_pos hkf.2.2]) rfl
 ·rintro x rfl
  have hx:x.2=colon:=by
   rcases h with ⟨_,_,_,e⟩|⟨y,_,e⟩
   ·cases e
   ·injection e with e;rw[e]
  rw[hx]
  exact ⟨hkr,hkf.1,hkf.2.1⟩
theorem pair_fel (hg:GivB s blk blk') {c deep p:Nat} {o:Rd (NT × NT × Coms × Nat)} (hp:p<s.size) (hw:U.white (byt s p:Int)=false) (hc:colF s p=c) (h:pairQ s blk c deep p o) :
  ∃ o',pairP s blk' c deep p o'∧Fel s (c:Int) (·.2.2.2) o o':=by
 unfold pairQ at h
 unfold pairP
 by_cases h63:markB s p 63=true
 ·simp only[if_pos h63] at h ⊢
  have h1:(c:Int)<(colF s (p+1):Int):=by rw[mark_col h63 (by decide)];omega
  rcases h with ⟨q,e,h2,rfl⟩|⟨k,h2,mv,rfl,k',rfl,h⟩
  ·obtain ⟨o',g1,g2⟩:=nod_fel hg (b:=3) (by decide) (by omega) h1 (mark_lt h63) h2
   rcases g2 with rfl|⟨rfl,x,rfl,rfl,g3,g4⟩
   ·exact ⟨_,.bad g1,.inl rfl⟩
   ·have g4:(c:Int)<(colF s x.2.2:Int):=g4
    refine ⟨_,.ok g1 (by rw[if_neg (by rintro ⟨_,e⟩;omega)]),.inr ⟨rfl,_,rfl,rfl,g3,g4⟩⟩
  ·obtain ⟨o',g1,g2⟩:=nod_fel hg (b:=3) (by decide) (by omega) h1 (mark_lt h63) h2
   cases g2
   by_cases hn:overB s k.2.2=true∨colF s k.2.2≠c∨markB s k.2.2 58=false
   ·rw[if_pos hn] at h
    subst h
    refine ⟨_,.ok g1 ?_,rfl⟩
    rw[if_neg]
    rintro ⟨e1,e2⟩
    rcases hn with hn|hn|hn
    ·rw[over_mark hn (.inr rfl)] at e1;cases e1
    ·exact hn e2
    ·rw[hn] at e1;cases e1
   ·rw[if_neg hn] at h
    rw[not_or,not_or] at hn
    have hm:markB s k.2.2 58=true:=by simpa using hn.2.2
    have hk:colF s k.2.2=c:=Decidable.not_not.1 hn.2.1
    have h3:(c:Int)<(colF s (k.2.2+1):Int):=by rw[mark_col hm (by decide)];omega
    obtain ⟨o',k1,k2⟩:=Fel.map (at':=fun x:Tre=>x.2.2) (bt:=fun x:NT × NT × Coms × Nat=>x.2.2.2) (fun v=>(untrail k.1,v.1.withLead ((if k.1.h.ht=true then [(k.1.h.trail,0)] else [])++k.2.1++v.1.h.lead),v.2)) (fun _=>rfl) (fun o ho=>nod_fel hg (b:=4) (by decide) (by omega) h3 (mark_lt hm) ho) h
    exact ⟨o',.ok g1 (by rw[if_pos ⟨hm,hk⟩];exact k1),k2⟩
 ·simp only[if_neg h63] at h ⊢
  rcases h with ⟨q,e,h2,rfl⟩|⟨k,h2,h⟩
  ·exact ⟨_,.bad (impl_fel hp hw h2).1,.inl rfl⟩
  ·obtain ⟨g1,g2⟩:=impl_fel hp hw h2
   obtain ⟨g3,g4,g5⟩:=g2 k rfl
   have h3:(c:Int)<(colF s (k.2+1):Int):=by rw[colF_row (k.2+1) (by omega) g3];omega
   obtain ⟨o',k1,k2⟩:=Fel.map (at':=fun x:Tre=>x.2.2) (bt:=fun x:NT × NT × Coms × Nat=>x.2.2.2) (fun v=>(k.1,v.1,v.2)) (fun _=>rfl) (fun o ho=>nod_fel hg (b:=5) (by decide) (by omega) h3 (by omega) ho) h
   exact ⟨o',.ok g1 k1,k2⟩
theorem map_fel (hg:GivB s blk blk') {c deep p:Nat} {lead:Coms} {kids:List NT} {o:Rd (List NT × Coms × Nat)} (h:MapT s blk c deep o p lead kids):p<s.size→U.white (byt s p:Int)=false→colF s p=c →
  ∃ o',MapP s blk' c deep o' p lead kids∧Fel s ((c:Int)-1) (·.2.2) o o':=by
 induction h with
 | @bad p lead kids q e h1 h2=>
  intro hp hw hc
  obtain ⟨o',g1,g2⟩:=pair_fel hg hp hw hc h1
  subst h2
  rcases g2 with rfl|⟨rfl,x,rfl,rfl,g3,g4⟩
  ·exact ⟨_,.bad g1 rfl,.inl rfl⟩
  ·obtain ⟨k,m,hA⟩:=Abv.ex s p
   have g4:(c:Int)<(colF s x.2.2.2:Int):=g4
   exact ⟨_,.stop g1 hA (.inl (by omega)) rfl,.inr ⟨rfl,_,rfl,rfl,g3,by show _<(colF s x.2.2.2:Int);omega⟩⟩
 | @over p lead kids x m k h1 hA h2 h3=>
  intro hp hw hc
  obtain ⟨o',g1,g2⟩:=pair_fel hg hp hw hc h1
  cases g2
  subst h3
  exact ⟨_,.stop g1 hA (by rcases h2 with h2|h2;exact .inr h2;exact .inl (by omega)) rfl,rfl⟩
 | @far p lead kids x r h1 h2 h3 hwq h4 h5=>
  intro hp hw hc
  obtain ⟨o',g1,g2⟩:=pair_fel hg hp hw hc h1
  cases g2
  subst h5
  obtain ⟨k,m,hA⟩:=Abv.ex s p
  rcases h4 with h4|⟨h4,rfl,h6⟩
  ·exact ⟨_,.stop g1 hA (.inl (by omega)) rfl,.inr ⟨rfl,_,rfl,rfl,h2,by omega⟩⟩
  ·exact ⟨_,.none g1 hA h4 h2 h3 h6 rfl,.inr ⟨rfl,_,rfl,rfl,h2,by omega⟩⟩
 | @go p lead kids x m k r h1 hA h2 h3 hwq h4 h5 _ ih=>
  intro hp hw hc
  obtain ⟨o',g1,g2⟩:=pair_fel hg hp hw hc h1
  cases g2
  obtain ⟨o2,k1,k2⟩:=ih (over_lt h2) hwq h4
  exact ⟨o2,.go g1 hA h4 h2 h3 h5 k1,k2⟩
end
theorem blk_fel (s:ByteArray):∀ g,GivB s (blkR s g) (blkP s g):=by
 intro g
 induction g with
 | zero=>intro deep p o h;exact h.elim
 | succ g ih=>
  intro deep p o h hp hw
  rcases h with ⟨h1,rfl⟩|⟨h1,h⟩
  ·exact ⟨_,.inl ⟨h1,rfl⟩,.inl rfl,fun _=>.inl rfl⟩
  ·by_cases h45:markB s p 45=true
   ·rw[if_pos h45] at h
    obtain ⟨o',g1,g2⟩:=Fel.map (bt:=fun x:Tre=>x.2.2) (fun r:List NT × Coms × Nat=>(NT.mk ⟨3,6,p,0,[],[],[],[],[],false,[]⟩ r.1,r.2)) (fun _=>rfl) (fun o ho=>seq_fel ih ho h45 rfl) h
    exact ⟨o',.inr ⟨h1,by rw[if_pos h45];exact g1⟩,g2.mono (by omega),fun _=>g2⟩
   ·rw[if_neg h45] at h
    obtain ⟨o',g1,g2⟩:=Fel.map (bt:=fun x:Tre=>x.2.2) (fun r:List NT × Coms × Nat=>(NT.mk ⟨4,6,p,0,[],[],[],[],[],false,[]⟩ r.1,r.2)) (fun _=>rfl) (fun o ho=>map_fel ih ho hp hw rfl) h
    exact ⟨o',.inr ⟨h1,by rw[if_neg h45];exact g1⟩,g2,fun e=>absurd e h45⟩
theorem tree_way {s:ByteArray} {at':Int} {beside:Bool} {x:Option NT} {L:Coms} {E C:Int} (h:TreeZ s at' beside x L E C) :
  ∃ g o,nodP s (blkP s g) (if beside=true then 1 else 0) (-1) 0 (min at' (s.size:Int)).toNat o∧match o with
   | .ok r=>if overB s r.2.2=true then x=some r.1∧L=r.2.1∧E=(r.2.2:Int)∧C=0 else x=none∧L=[]∧E=(r.2.2:Int)∧C=5
   | .bad p c=>x=none∧L=[]∧E=(p:Int)∧C=c:=by
 obtain ⟨g,o,h1,h2⟩:=h
 have e:(⟨-1,false,!beside,false,0,false⟩:Spt)=sptP (if beside=true then 1 else 0) (-1) 0:=by cases beside <;> rfl
 rw[e] at h1
 obtain ⟨o',g1,g2⟩:=nod_fel (blk_fel s g) (by cases beside <;> decide) (fun _=>rfl) (by omega) (by omega) h1
 refine ⟨g,o',g1,?_⟩
 cases o with
 | ok r=>cases g2;exact h2
 | bad q e=>
  obtain ⟨rfl,rfl,rfl,rfl⟩:=h2
  rcases g2 with rfl|⟨rfl,y,rfl,rfl,g3,_⟩
  ·exact ⟨rfl,rfl,rfl,rfl⟩
  ·show if overB s y.2.2=true then _ else _
   rw[if_neg (by rw[g3];decide)]
   exact ⟨rfl,rfl,rfl,rfl⟩
end Go.Proofs.YthcmkpiajkbpnaaGreatDoor
namespace Go.Proofs.YthcmkpiajkbpnaaGreatDoor
open Go.RowKit
def way (k:Int):Nat:=(lowZ k 6).toNat
end Go.Proofs.YthcmkpiajkbpnaaGreatDoor
namespace Go.Proofs.YthcmkpiajkbpnaaGreatDoor
open Go.RowKit
section
variable {s:ByteArray} {n:Int} {col:Nat→Nat→Rd (NT × Nat)→Prop}
end
instance (s:ByteArray) (p:Nat) (l:List UInt8):Decidable (Pre s p l):=by unfold Pre;infer_instance
end Go.Proofs.YthcmkpiajkbpnaaGreatDoor
namespace Go.Proofs.YthcmkpiajkbpnaaGreatDoor
open Go.RowKit
attribute [local go_sem ↓] Go.wp_at_zero Go.wp_at_succ
def Cells12 (cs:List Value):Prop:=∃ (i1 i2 i3 i4:Int) (s1 s2 s3:ByteArray) (a1:Option Addr) (n1 c1:Nat) (a2:Option Addr) (n2 c2:Nat) (a3:Option Addr) (n3 c3:Nat) (b:Bool) (s4:ByteArray),
 cs=[.int .i64 i1,.int .i64 i2,.int .i64 i3,.int .i64 i4,.string s1,.string s2,.string s3,.slice a1 n1 c1,.slice a2 n2 c2,.slice a3 n3 c3,.bool b,.string s4]
end Go.Proofs.YthcmkpiajkbpnaaGreatDoor
