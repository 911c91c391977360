/- Parts of the proof, put together from smaller texts (blanks that Lean does not want are struck). Conditions: those that each theorem writes out. -/
import Derived.Deep.AppendSrc
import Derived.Deep.Onto
import Derived.Deep.Upon
import Derived.Test.YtafhgbokdfhapaaGreatDoorZ00
import Derived.Test.YtafhgbokdfhapaaGreatDoorZ03
import Derived.Test.YtafhgbokdfhapaaGreatDoorZ04
namespace Go.Proofs.YtafhgbokdfhapaaGreatDoor
open Go.RowKit
theorem NZ.nw {s:ByteArray} {wi:Bool} {n:Int} {a:Nat} {sm:Bool} {L:Coms} {S:Bool} {E:Nat} {C:Int} {p:Nat} {m f:Bool} {o:Coms} {b:Bool} (h:NZ s wi n a sm L S E C p m f o b):C=0→E<s.size→U.white (byt s E:Int)=false:=by
 induction h with
 | over h1 _ _ e _=>intro _ h;omega
 | @mark p t q f o b h1 ht hq hk _ _ _ e _=>
  intro _ _
  subst e
  have h0:byt s E=45∨byt s E=46:=by
   by_cases h1:mk3 s E t 45=true
   ·unfold mk3 at h1
    rw[decide_eq_true_eq] at h1
    exact .inl h1.2.1
   ·by_cases h2:mk3 s E t 46=true
    ·unfold mk3 at h2
     rw[decide_eq_true_eq] at h2
     exact .inr h2.2.1
    ·unfold kindN at hk
     rw[if_neg h1,if_neg h2] at hk
     exfalso
     split at hk
     ·omega
     ·split at hk <;> omega
  rcases h0 with h0|h0 <;> rw[h0] <;> decide
 | markX _ _ _ _ _ _ _ _ _ e=>intro h;omega
 | tab _ _ _ _ _ _ _ _ _ e=>intro h;omega
 | far _ _ _ _ _ _ _ _ _ _ _ e=>intro h;omega
 | met _ _ _ _ _ _ _ _ _ ih=>exact ih
 | white _ _ _ ih=>exact ih
 | lf _ _ _ ih=>exact ih
 | com _ _ _ _ _ _ ih=>exact ih
 | stop _ hw _ _ _ _ e _=>intro _ _;subst e;exact hw
theorem pass_nw {s:ByteArray} {p:Nat} {b:Coms × Bool × Nat} (h:passR s p (.ok b)) (hb:b.2.2<s.size):U.white (byt s b.2.2:Int)=false:=by
 obtain ⟨L,S,E,C,hZ,e⟩:=h
 split at e
 ·rename_i hC
  injection e with e
  subst e
  obtain ⟨r0,E',_,rfl,hN⟩:=hZ
  exact hN.nw hC (by simpa using hb)
 ·cases e
theorem key_colon {s:ByteArray} {p q:Nat} (h:KeyR s p (some q)):∃ t e,RowE s p t∧colonR s t e (some q):=by
 unfold KeyR at h
 split at h
 ·cases h
 ·obtain ⟨t,A,T,E,C,ht,_,h⟩:=h
  split at h
  ·cases h
  ·obtain ⟨q0,_,h⟩:=h
   split at h
   ·exact ⟨_,_,ht,h⟩
   ·split at h
    ·split at h
     ·cases h
     ·obtain ⟨_,_,_,_,h⟩:=h
      split at h
      ·cases h
      ·exact ⟨_,_,ht,h⟩
    ·split at h
     ·obtain ⟨_,_,_,_,_,h⟩:=h
      split at h
      ·cases h
      ·exact ⟨_,_,ht,h⟩
     ·split at h
      ·obtain ⟨x,_,_,_,h⟩:=h
       cases x with
       | none=>cases h
       | some x=>exact ⟨_,_,ht,h⟩
      ·split at h
       ·obtain ⟨_,_,h⟩:=h
        exact ⟨_,_,ht,h⟩
       ·exact ⟨_,_,ht,h⟩
theorem key_row {s:ByteArray} {p q:Nat} (h:KeyR s p (some q)):sameRow s p (q+1)=true:=by
 obtain ⟨t,e,ht,hc⟩:=key_colon h
 have h1:=colon_far hc
 have h58:=isB_lt (show isB s q 58=true by have:=h1.2.2;unfold markB at this;rw[Bool.and_eq_true] at this;exact this.1)
 refine sameRow_iff.2 fun j j1 j2=>?_
 by_cases hj:j=q
 ·rw[hj,h58.2];decide
 ·exact ht.2.2.1 j (by omega) j2
theorem plain_key {s:ByteArray} {q e c:Nat} (hb:begB s (q:Int) false=true) (hP:ParN s false q e) (hw:WhN s e c) (hc:markB s c 58=true):PlaiZ s (q:Int) (-1) false (pieceL s q e) (e:Int) true 0:=by
 unfold PlaiZ
 rw[if_neg (by rw[hb];decide)]
 refine ⟨e,rfl,fun e' he'=>?_⟩
 rw[Int.toNat_natCast] at he' ⊢
 have e1:e'=e:=he'.uniq hP
 subst e1
 intro t f ht hf
 have hcl:=mark_lt hc
 have h58:=isB_lt (show isB s c 58=true by unfold markB at hc;rw[Bool.and_eq_true] at hc;exact hc.1)
 have hct:c<t:=by
  refine Decidable.byContradiction fun hn=>?_
  rcases ht.2.2.2 with h|h
  ·omega
  ·by_cases htc:t=c
   ·rw[htc,h58.2] at h;cases h
   ·have:=hw.2 t (by omega) ht.1
    rw[h] at this
    cases this
 have hfc:f≤c:=by
  refine Decidable.byContradiction fun hn=>?_
  have:=hf.2.2.1 c (by omega) hw.1
  rw[h58.2] at this
  cases this
 rw[if_pos (.inl (by omega))]
 exact ⟨((congrArg (fun z=>pieceL s q e'++z) (U.flowGo_nil 0)).trans (List.append_nil _)).symm,rfl,rfl,rfl⟩
theorem over_mark {s:ByteArray} {q c:Nat} (h:overB s q=true) (hc:c=45∨c=58):markB s q c=false:=by
 unfold overB at h
 rw[Bool.or_eq_true,decide_eq_true_eq,Bool.and_eq_true,Bool.or_eq_true] at h
 unfold markB
 rcases h with h|⟨_,h⟩
 ·unfold isB
  rw[decide_eq_false (by omega),Bool.false_and]
 ·unfold m3B at h
  rw[Bool.and_eq_true,Bool.and_eq_true,Bool.and_eq_true,Bool.and_eq_true] at h
  rcases h with ⟨h1,h2,_⟩|⟨h1,_⟩
  ·have h1:=isB_lt h1
   have h2:=isB_lt h2
   rcases hc with rfl|rfl
   ·rw[endsB_in s _ h2.1,h2.2,show U.endc ((45:Nat):Int)=false by decide,Bool.and_false]
   ·rw[isB_no (by rw[h1.2];decide),Bool.false_and]
  ·have h1:=isB_lt h1
   rw[isB_no (by rw[h1.2];rcases hc with rfl|rfl <;> decide),Bool.false_and]
section
variable {s:ByteArray} {blk blk':Nat→Nat→Rd Tre→Prop}
theorem cont_star {k:Spt} {q:Nat} {o:Rd Tre} (h:contT s k true q o) (h42:isB s q 42=true):o=.bad q 5:=by
 rcases h with ⟨r,e,h1,rfl⟩|⟨x,h1,_⟩
 ·unfold leafR at h1
  rw[if_pos h42,if_pos rfl] at h1
  injection h1 with h1 h2
  rw[h1,h2]
 ·unfold leafR at h1
  rw[if_pos h42,if_pos rfl] at h1
  cases h1
theorem leaf_prop {n:Int} {d q:Nat} (h:isB s q 38=true∨isB s q 33=true):leafR s n d false q (.bad q 5)∧isB s q 42=false:=by
 have hb:byt s q=38∨byt s q=33:=h.imp (fun h=>(isB_lt h).2) fun h=>(isB_lt h).2
 have no:∀ c,c≠38→c≠33→isB s q c=false:=fun c h1 h2=>isB_no (by rcases hb with e|e <;> rw[e];exact fun e=>h1 e.symm;exact fun e=>h2 e.symm)
 refine ⟨?_,no 42 (by decide) (by decide)⟩
 unfold leafR
 rw[no 42 (by decide) (by decide),no 34 (by decide) (by decide),no 39 (by decide) (by decide),no 91 (by decide) (by decide),no 123 (by decide) (by decide),no 124 (by decide) (by decide),no 62 (by decide) (by decide),if_neg (by decide),if_neg (by decide),if_neg (by decide),if_neg (by decide),if_neg]
 intro hbg
 obtain ⟨_,_,_,h4,_⟩:=beg_not hbg
 rcases hb with e|e
 ·exact h4 38 (by simp) e
 ·exact h4 33 (by simp) e
theorem miss_of {b:Nat} {n:Int} {q:Nat} (h1:overB s q=false) (h2:n<(colF s q:Int)):missP s b n q=false:=by
 unfold missP
 rw[h1,Bool.false_or,if_neg (by rintro ⟨h,_⟩;omega),decide_eq_false (by omega)]
def GivB (s:ByteArray) (blk blk':Nat→Nat→Rd Tre→Prop):Prop:=∀ deep p o,blk deep p o→p<s.size→U.white (byt s p:Int)=false→∃ o',blk' deep p o'∧FelB s p o o'
theorem beg_fel (hg:GivB s blk blk') {b:Nat} {n:Int} {d fro p:Nat} {o:Rd Tre} (hb5:b≤5) (h0:b≤1→n=-1) (hm:missP s b n p=false) (hw:U.white (byt s p:Int)=false) (h:begT s blk (sptP b n d) fro p o) :
  ∃ o',bgnP s blk' b n d fro p o'∧Fel s n (·.2.2) o o':=by
 obtain ⟨hov,hc⟩:=miss_no hm
 have hlt:=over_lt hov
 obtain ⟨op,ho,h⟩:=h
 cases op with
 | true=>
  rw[if_pos rfl] at h
  by_cases h1:b=0∨sameRow s fro p=false
  ·rw[if_pos (h1.imp (fun e=>by rw[e];rfl) id)] at h
   obtain ⟨o',g1,g2⟩:=hg _ _ _ h hlt hw
   exact ⟨o',⟨true,ho,by rw[if_pos rfl,if_pos h1];exact g1⟩,g2.node hc⟩
  ·have h1':=not_or.1 h1
   rw[if_neg (by rintro (e|e);exact h1 (.inl (of_decide_eq_true e));exact h1 (.inr e))] at h
   by_cases h2:b=1∨b=5
   ·rw[if_pos (show (sptP b n d).opens=false from decide_eq_false (by omega))] at h
    subst h
    exact ⟨_,⟨true,ho,by rw[if_pos rfl,if_neg h1,if_pos h2]⟩,.inl rfl⟩
   ·have h1a:=h1'.1
    rw[if_neg (by rw[show (sptP b n d).opens=true from decide_eq_true (by omega)];decide)] at h
    rcases h with ⟨i,hi,rfl⟩|⟨hn,h⟩
    ·exact ⟨_,⟨true,ho,by rw[if_pos rfl,if_neg h1,if_neg h2];exact .inl ⟨i,hi,rfl⟩⟩,.inl rfl⟩
    ·obtain ⟨o',g1,g2⟩:=hg _ _ _ h hlt hw
     exact ⟨o',⟨true,ho,by rw[if_pos rfl,if_neg h1,if_neg h2];exact .inr ⟨hn,g1⟩⟩,g2.node hc⟩
 | false=>
  rw[if_neg (by decide)] at h
  obtain ⟨A,T,E,C,hP,h⟩:=h
  by_cases hC:C≠0
  ·rw[if_pos hC] at h
   subst h
   exact ⟨_,⟨false,ho,by rw[if_neg (by decide)];exact ⟨A,T,E,C,hP,by rw[if_pos hC]⟩⟩,.inl rfl⟩
  ·rw[if_neg hC] at h
   by_cases hE:E=(p:Int)
   ·rw[if_pos hE] at h
    obtain ⟨o',g1,g2⟩:=cont_fel h (fun e=>by cases e)
    exact ⟨o',⟨false,ho,by rw[if_neg (by decide)];exact ⟨A,T,E,C,hP,by rw[if_neg hC,if_pos hE];exact g1⟩⟩,g2⟩
   ·rw[if_neg hE] at h
    obtain ⟨E',rfl,e1,e2⟩:=hP.far_le (Nat.le_of_lt hlt)
    rw[Int.toNat_natCast] at h
    have hrow:=hP.row (by omega) (Nat.le_of_lt hlt)
    rw[Int.toNat_natCast] at hrow
    have hnp:n<(colF s p:Int):=by
     rcases hc with hc|⟨_,hc⟩
     ·exact hc
     ·unfold OpenR at ho
      rw[if_pos (.inl hc)] at ho
      cases ho
    have hce:=colF_row E' e1 hrow
    suffices hmain:∀ o1:Rd (Tre × Coms),(∃ t q,FirR s E' t q ∧
      if q<t∧byt s q≠35 then passR s E' (.ok ([],false,q))∧overB s q=false∧andR (contT s (sptP b n d) true q) (fun x o=>o=.ok (x,[])) o1
      else andR (passR s E') (fun l o=>(l.2.2<s.size→sameRow s E' l.2.2=false) ∧
       if noneB s (sptP b n d).n false (sptP b n d).flat E' l.2.2=true then o=.ok (emptyT (sptP b n d).key l.1 l.2.1 l.2.2,[])
       else ∃ op,OpenR s l.2.2 op ∧
        if op=true then andR (blk (sptP b n d).deep l.2.2) (fun x o=>o=.ok (x,l.1)) o
        else if isB s l.2.2 38=true∨isB s l.2.2 33=true then o=.bad l.2.2 5
        else andR (contT s (sptP b n d) true l.2.2) (fun x o=>o=.ok (x,l.1)) o) o1) →
      ∃ o2,andR (passR s E') (fun l o=>if missP s b n l.2.2=true then o=.ok (emptyT (decide (b=3)) l.1 l.2.1 l.2.2,[]) else ownP s blk' n d E' l o) o2∧Fel s n (fun x:Tre × Coms=>x.1.2.2) o1 o2 by
     obtain ⟨o',g1,g2⟩:=Fel.map (bt:=fun x:Tre=>x.2.2) (fun x:Tre × Coms=>(x.1.1.withHead A T p x.2,x.1.2)) (fun _=>rfl) hmain h
     refine ⟨o',⟨false,ho,?_⟩,g2⟩
     rw[if_neg (by decide)]
     exact ⟨A,T,_,C,hP,by rw[if_neg hC,if_neg hE,Int.toNat_natCast];exact g1⟩
    rintro o1 ⟨t,q,hF,h⟩
    have own:∀ (l:Coms × Bool × Nat) (o1:Rd (Tre × Coms)),andR (contT s (sptP b n d) true l.2.2) (fun x o=>o=.ok (x,l.1)) o1→∃ o2,ownC s n d l o2∧Fel s n (fun x:Tre × Coms=>x.1.2.2) o1 o2:=fun l o1 ho1=>by
     unfold ownC
     by_cases h42:isB s l.2.2 42=true
     ·simp only[if_pos h42]
      refine ⟨_,rfl,?_⟩
      rcases ho1 with ⟨r,e,h1,rfl⟩|⟨x,h1,rfl⟩
      ·have:=cont_star h1 h42
       injection this with t1 t2
       subst t1 t2
       exact .inl rfl
      ·have:=cont_star h1 h42
       cases this
     ·simp only[if_neg h42]
      exact Fel.map (at':=fun x:Tre=>x.2.2) (bt:=fun x:Tre × Coms=>x.1.2.2) (fun x=>(x,l.1)) (fun _=>rfl) (fun o ho=>cont_fel ho (fun _=>by simpa using h42)) ho1
    by_cases hq:q<t∧byt s q≠35
    ·rw[if_pos hq] at h
     obtain ⟨hp,hov2,h⟩:=h
     have hqe:E'≤q:=hF.2.1
     have hrq:sameRow s E' q=true:=sameRow_iff.2 fun j j1 j2=>by
      have:=hF.2.2.2.1 j j1 j2
      intro e
      rw[e] at this
      cases this
     have hcq:=colF_row q hqe hrq
     obtain ⟨o2,g1,g2⟩:=own ([],false,q) o1 h
     refine ⟨o2,.ok hp ?_,g2⟩
     rw[if_neg (by rw[miss_of hov2 (by omega)];decide)]
     unfold ownP
     rw[if_neg (by rw[hrq];decide)]
     exact g1
    ·rw[if_neg hq] at h
     rcases h with ⟨r,e,h1,rfl⟩|⟨l,h1,hsr,h⟩
     ·exact ⟨_,.bad h1,.inl rfl⟩
     ·have hfar:=pass_far h1 e2
      rw[none_miss (by omega) h0 hfar.1 false (fun e=>by cases e)] at h
      by_cases hmi:missP s b n l.2.2=true
      ·rw[if_pos hmi] at h
       subst h
       exact ⟨_,.ok h1 (by rw[if_pos hmi];rfl),rfl⟩
      ·rw[if_neg hmi] at h
       obtain ⟨hov2,hc2⟩:=miss_no (Bool.eq_false_iff.2 hmi)
       have hl2:=over_lt hov2
       have hs2:=hsr hl2
       obtain ⟨op2,ho2,h⟩:=h
       have put:∀ o2,ownP s blk' n d E' l o2→andR (passR s E') (fun l o=>if missP s b n l.2.2=true then o=.ok (emptyT (decide (b=3)) l.1 l.2.1 l.2.2,[]) else ownP s blk' n d E' l o) o2:=fun o2 h2=>.ok h1 (by rw[if_neg hmi];exact h2)
       cases op2 with
       | true=>
        rw[if_pos rfl] at h
        obtain ⟨o2,g1,g2⟩:=Fel.map (at':=fun x:Tre=>x.2.2) (n:=n) (bt:=fun x:Tre × Coms=>x.1.2.2) (m':=blk' d l.2.2) (fun x=>(x,l.1)) (fun _=>rfl) (fun o ho=>by
         obtain ⟨o',k1,k2⟩:=hg _ _ _ ho hl2 (pass_nw h1 hl2)
         exact ⟨o',k1,k2.node hc2⟩) h
        exact ⟨o2,put _ (by unfold ownP;rw[if_pos hs2];exact ⟨true,ho2,by rw[if_pos rfl];exact g1⟩),g2⟩
       | false=>
        rw[if_neg (by decide)] at h
        by_cases hpr:isB s l.2.2 38=true∨isB s l.2.2 33=true
        ·rw[if_pos hpr] at h
         subst h
         obtain ⟨k1,k2⟩:=leaf_prop (n:=n) (d:=d) hpr
         refine ⟨.bad l.2.2 5,put _ (by
          unfold ownP
          rw[if_pos hs2]
          refine ⟨false,ho2,?_⟩
          rw[if_neg (by decide)]
          unfold ownC
          rw[if_neg (by rw[k2];decide)]
          exact .bad (.bad k1)),.inl rfl⟩
        ·rw[if_neg hpr] at h
         obtain ⟨o2,g1,g2⟩:=own l o1 h
         exact ⟨o2,put _ (by unfold ownP;rw[if_pos hs2];exact ⟨false,ho2,by rw[if_neg (by decide)];exact g1⟩),g2⟩
theorem nod_fel (hg:GivB s blk blk') {b:Nat} {n:Int} {d p:Nat} {o:Rd Tre} (hb5:b≤5) (h0:b≤1→n=-1) (hn:n<(colF s p:Int)) (hp:p≤s.size) (h:nodT s blk (sptP b n d) p o) :
  ∃ o',nodP s blk' b n d p o'∧Fel s n (·.2.2) o o':=by
 rcases h with ⟨r,e,h1,rfl⟩|⟨l,h1,h⟩
 ·exact ⟨_,.bad h1,.inl rfl⟩
 ·have hfar:=pass_far h1 hp
  rw[none_miss (b:=b) (d:=d) hn h0 hfar.1 (sptP b n d).bare (fun e=>of_decide_eq_true e)] at h
  by_cases hmi:missP s b n l.2.2=true
  ·rw[if_pos hmi] at h
   subst h
   exact ⟨_,.ok h1 (by rw[if_pos hmi];rfl),rfl⟩
  ·rw[if_neg hmi] at h
   have hm:=Bool.eq_false_iff.2 hmi
   have hl:=over_lt (miss_no hm).1
   obtain ⟨o',g1,g2⟩:=Fel.map (bt:=fun x:Tre=>x.2.2) (fun x:Tre=>(x.1.withLead (l.1++x.1.h.lead),x.2)) (fun _=>rfl) (fun o ho=>beg_fel hg hb5 h0 hm (pass_nw h1 hl) ho) h
   exact ⟨o',.ok h1 (by rw[if_neg hmi];exact g1),g2⟩
theorem col_step {p c:Nat} (h:byt s p=c) (hc:c≠10):colF s (p+1)=colF s p+1:=by
 show (if byt s p=10 then 0 else colF s p+1)=_
 rw[if_neg (by rw[h];exact hc)]
theorem mark_col {p c:Nat} (h:markB s p c=true) (hc:c≠10):colF s (p+1)=colF s p+1:=by
 unfold markB at h
 rw[Bool.and_eq_true] at h
 exact col_step (isB_lt h.1).2 hc
theorem seq_fel (hg:GivB s blk blk') {c deep p:Nat} {lead:Coms} {kids:List NT} {o:Rd (List NT × Coms × Nat)} (h:SeqT s blk c deep o p lead kids):markB s p 45=true→colF s p=c →
  ∃ o',SeqP s blk' c deep o' p lead kids∧Fel s (c:Int) (·.2.2) o o':=by
 induction h with
 | @bad p lead kids q e h1 h2=>
  intro hm hc
  have h3:(c:Int)<(colF s (p+1):Int):=by rw[mark_col hm (by decide)];omega
  obtain ⟨o',g1,g2⟩:=nod_fel hg (b:=2) (by decide) (by omega) h3 (mark_lt hm) h1
  subst h2
  rcases g2 with rfl|⟨rfl,x,rfl,rfl,g3,g4⟩
  ·exact ⟨_,.bad g1 rfl,.inl rfl⟩
  ·obtain ⟨k,m,hA⟩:=Abv.ex s p
   have g4:(c:Int)<(colF s x.2.2:Int):=g4
   exact ⟨_,.stop g1 hA (.inl (by omega)) rfl,.inr ⟨rfl,_,rfl,rfl,g3,g4⟩⟩
 | @over p lead kids x m k h1 hA h2 h3=>
  intro hm hc
  have h4:(c:Int)<(colF s (p+1):Int):=by rw[mark_col hm (by decide)];omega
  obtain ⟨o',g1,g2⟩:=nod_fel hg (b:=2) (by decide) (by omega) h4 (mark_lt hm) h1
  cases g2
  subst h3
  refine ⟨_,.stop g1 hA ?_ rfl,rfl⟩
  rcases h2 with h2|⟨h2,h3|h3⟩
  ·exact .inr (over_mark h2 (.inl rfl))
  ·exact .inl (by omega)
  ·exact .inr h3
 | @far p lead kids x h1 h2 h3 h4=>
  intro hm hc
  have h5:(c:Int)<(colF s (p+1):Int):=by rw[mark_col hm (by decide)];omega
  obtain ⟨o',g1,g2⟩:=nod_fel hg (b:=2) (by decide) (by omega) h5 (mark_lt hm) h1
  cases g2
  subst h4
  obtain ⟨k,m,hA⟩:=Abv.ex s p
  exact ⟨_,.stop g1 hA (.inl (by omega)) rfl,.inr ⟨rfl,_,rfl,rfl,h2,by omega⟩⟩
 | @go p lead kids x m k h1 hA h2 h3 h4 _ ih=>
  intro hm hc
  have h5:(c:Int)<(colF s (p+1):Int):=by rw[mark_col hm (by decide)];omega
  obtain ⟨o',g1,g2⟩:=nod_fel hg (b:=2) (by decide) (by omega) h5 (mark_lt hm) h1
  cases g2
  obtain ⟨o2,k1,k2⟩:=ih h4 h3
  exact ⟨o2,.go g1 hA h3 h4 k1,k2⟩
theorem impl_fel {deep p:Nat} {o:Rd (NT × Nat)} (hp:p<s.size) (hw:U.white (byt s p:Int)=false) (h:implR s deep p o):implP s deep p o∧∀ x,o=.ok x→sameRow s p (x.2+1)=true∧p≤x.2∧x.2<s.size:=by
 obtain ⟨colon,A,T,E,C,q,hK,hP,hq,h58,h42,h⟩:=h
 have hkf:=key_far hK
 have hkr:=key_row hK
 have h58c:=isB_lt (show isB s colon 58=true by have:=hkf.2.2;unfold markB at this;rw[Bool.and_eq_true] at this;exact this.1)
 have hcw:U.white (byt s colon:Int)=false:=by rw[h58c.2];decide
 obtain ⟨E',rfl,e1,e2⟩:=hP.far_le (Nat.le_of_lt hp)
 rw[Int.toNat_natCast] at hq h42
 have hqc:WhN s E' q∧q≤colon∧U.white (byt s q:Int)=false:=by
  split at hq
  ·obtain ⟨g1,g2,g3,g4⟩:=hq
   refine ⟨⟨g1,g3⟩,g2,?_⟩
   rcases g4 with rfl|g4
   ·exact hcw
   ·exact g4
  ·have:E'=p:=by omega
   subst this hq
   exact ⟨⟨Nat.le_refl _,fun j j1 j2=>by omega⟩,hkf.1,hw⟩
 obtain ⟨hq1,hq2,hq3⟩:=hqc
 have hqs:q<s.size:=by omega
 refine ⟨⟨A,T,_,C,q,hP,by rw[Int.toNat_natCast];exact e1,by rw[Int.toNat_natCast],by rw[Int.toNat_natCast];exact hq1,hqs,hq3,?_⟩,?_⟩
 ·rw[Int.toNat_natCast] at h ⊢
  have leaf:∀ o,leafR s (-1) deep (decide (p<E')) q o→leafR s (-1) deep false q o:=fun o ho=>by
   by_cases hpE:p<E'
   ·have h9:=h42 hpE
    unfold leafR at ho ⊢
    rw[if_neg (by rw[h9];decide)] at ho ⊢
    exact ho
   ·rw[decide_eq_false hpE] at ho
    exact ho
  by_cases hqc:q<colon
  ·have hm:=h58 hqc
   rcases h with ⟨r,e,h,rfl⟩|⟨x,h,rfl⟩
   ·rw[if_pos hqc] at h
    refine .bad ?_
    rw[if_neg (by rw[hm];decide)]
    split at h
    ·obtain ⟨_,_,_,h⟩:=h;cases h
    ·rcases h with ⟨r,e,h,h2⟩|⟨y,h,_,h2⟩
     ·cases h2
      exact .bad (leaf _ h)
     ·cases h2
   ·rw[if_pos hqc] at h
    refine .ok (x:=(x,colon)) ?_ rfl
    rw[if_neg (by rw[hm];decide)]
    split at h
    ·rename_i hb
     obtain ⟨e,hPa,hWh,h⟩:=h
     injection h with h
     subst h
     refine .ok (x:=(.mk ⟨1,1,q,0,[],[],pieceL s q e,[],[],false,[]⟩ [],e)) ?_ ⟨colon,hWh,hkf.2.1,hcw,rfl⟩
     obtain ⟨_,_,_,k4,_⟩:=beg_not hb
     unfold leafR
     rw[isB_no (k4 42 (by simp)),isB_no (k4 34 (by simp)),isB_no (k4 39 (by simp)),isB_no (k4 91 (by simp)),isB_no (k4 123 (by simp)),isB_no (k4 124 (by simp)),isB_no (k4 62 (by simp)),if_neg (by decide),if_neg (by decide),if_neg (by decide),if_neg (by decide),if_pos hb]
     exact ⟨_,_,true,0,plain_key hb hPa hWh hkf.2.2,by rw[if_pos rfl,Int.toNat_natCast]⟩
    ·rcases h with ⟨r,e,h,h2⟩|⟨y,h,hWh,h2⟩
     ·cases h2
     ·cases h2
      exact .ok (leaf _ h) ⟨colon,hWh,hkf.2.1,hcw,rfl⟩
  ·have:q=colon:=by omega
   subst this
   rcases h with ⟨r,e,h,rfl⟩|⟨x,h,rfl⟩
   ·rw[if_neg hqc] at h
    cases h
   ·rw[if_neg hqc] at h
    injection h with h
    subst h
    exact .ok (x:=(voidN,q)) (by rw[if_pos hkf.2.2]) rfl
 ·rintro x rfl
  have hx:x.2=colon:=by
   rcases h with ⟨_,_,_,e⟩|⟨y,_,e⟩
   ·cases e
   ·injection e with e;rw[e]
  rw[hx]
  exact ⟨hkr,hkf.1,hkf.2.1⟩
theorem pair_fel (hg:GivB s blk blk') {c deep p:Nat} {o:Rd (NT × NT × Coms × Nat)} (hp:p<s.size) (hw:U.white (byt s p:Int)=false) (hc:colF s p=c) (h:pairQ s blk c deep p o) :
  ∃ o',pairP s blk' c deep p o'∧Fel s (c:Int) (·.2.2.2) o o':=by
 unfold pairQ at h
 unfold pairP
 by_cases h63:markB s p 63=true
 ·simp only[if_pos h63] at h ⊢
  have h1:(c:Int)<(colF s (p+1):Int):=by rw[mark_col h63 (by decide)];omega
  rcases h with ⟨q,e,h2,rfl⟩|⟨k,h2,mv,rfl,k',rfl,h⟩
  ·obtain ⟨o',g1,g2⟩:=nod_fel hg (b:=3) (by decide) (by omega) h1 (mark_lt h63) h2
   rcases g2 with rfl|⟨rfl,x,rfl,rfl,g3,g4⟩
   ·exact ⟨_,.bad g1,.inl rfl⟩
   ·have g4:(c:Int)<(colF s x.2.2:Int):=g4
    refine ⟨_,.ok g1 (by rw[if_neg (by rintro ⟨_,e⟩;omega)]),.inr ⟨rfl,_,rfl,rfl,g3,g4⟩⟩
  ·obtain ⟨o',g1,g2⟩:=nod_fel hg (b:=3) (by decide) (by omega) h1 (mark_lt h63) h2
   cases g2
   by_cases hn:overB s k.2.2=true∨colF s k.2.2≠c∨markB s k.2.2 58=false
   ·rw[if_pos hn] at h
    subst h
    refine ⟨_,.ok g1 ?_,rfl⟩
    rw[if_neg]
    rintro ⟨e1,e2⟩
    rcases hn with hn|hn|hn
    ·rw[over_mark hn (.inr rfl)] at e1;cases e1
    ·exact hn e2
    ·rw[hn] at e1;cases e1
   ·rw[if_neg hn] at h
    rw[not_or,not_or] at hn
    have hm:markB s k.2.2 58=true:=by simpa using hn.2.2
    have hk:colF s k.2.2=c:=Decidable.not_not.1 hn.2.1
    have h3:(c:Int)<(colF s (k.2.2+1):Int):=by rw[mark_col hm (by decide)];omega
    obtain ⟨o',k1,k2⟩:=Fel.map (at':=fun x:Tre=>x.2.2) (bt:=fun x:NT × NT × Coms × Nat=>x.2.2.2) (fun v=>(untrail k.1,v.1.withLead ((if k.1.h.ht=true then [(k.1.h.trail,0)] else [])++k.2.1++v.1.h.lead),v.2)) (fun _=>rfl) (fun o ho=>nod_fel hg (b:=4) (by decide) (by omega) h3 (mark_lt hm) ho) h
    exact ⟨o',.ok g1 (by rw[if_pos ⟨hm,hk⟩];exact k1),k2⟩
 ·simp only[if_neg h63] at h ⊢
  rcases h with ⟨q,e,h2,rfl⟩|⟨k,h2,h⟩
  ·exact ⟨_,.bad (impl_fel hp hw h2).1,.inl rfl⟩
  ·obtain ⟨g1,g2⟩:=impl_fel hp hw h2
   obtain ⟨g3,g4,g5⟩:=g2 k rfl
   have h3:(c:Int)<(colF s (k.2+1):Int):=by rw[colF_row (k.2+1) (by omega) g3];omega
   obtain ⟨o',k1,k2⟩:=Fel.map (at':=fun x:Tre=>x.2.2) (bt:=fun x:NT × NT × Coms × Nat=>x.2.2.2) (fun v=>(k.1,v.1,v.2)) (fun _=>rfl) (fun o ho=>nod_fel hg (b:=5) (by decide) (by omega) h3 (by omega) ho) h
   exact ⟨o',.ok g1 k1,k2⟩
theorem map_fel (hg:GivB s blk blk') {c deep p:Nat} {lead:Coms} {kids:List NT} {o:Rd (List NT × Coms × Nat)} (h:MapT s blk c deep o p lead kids):p<s.size→U.white (byt s p:Int)=false→colF s p=c →
  ∃ o',MapP s blk' c deep o' p lead kids∧Fel s ((c:Int)-1) (·.2.2) o o':=by
 induction h with
 | @bad p lead kids q e h1 h2=>
  intro hp hw hc
  obtain ⟨o',g1,g2⟩:=pair_fel hg hp hw hc h1
  subst h2
  rcases g2 with rfl|⟨rfl,x,rfl,rfl,g3,g4⟩
  ·exact ⟨_,.bad g1 rfl,.inl rfl⟩
  ·obtain ⟨k,m,hA⟩:=Abv.ex s p
   have g4:(c:Int)<(colF s x.2.2.2:Int):=g4
   exact ⟨_,.stop g1 hA (.inl (by omega)) rfl,.inr ⟨rfl,_,rfl,rfl,g3,by show _<(colF s x.2.2.2:Int);omega⟩⟩
 | @over p lead kids x m k h1 hA h2 h3=>
  intro hp hw hc
  obtain ⟨o',g1,g2⟩:=pair_fel hg hp hw hc h1
  cases g2
  subst h3
  exact ⟨_,.stop g1 hA (by rcases h2 with h2|h2;exact .inr h2;exact .inl (by omega)) rfl,rfl⟩
 | @far p lead kids x r h1 h2 h3 hwq h4 h5=>
  intro hp hw hc
  obtain ⟨o',g1,g2⟩:=pair_fel hg hp hw hc h1
  cases g2
  subst h5
  obtain ⟨k,m,hA⟩:=Abv.ex s p
  rcases h4 with h4|⟨h4,rfl,h6⟩
  ·exact ⟨_,.stop g1 hA (.inl (by omega)) rfl,.inr ⟨rfl,_,rfl,rfl,h2,by omega⟩⟩
  ·exact ⟨_,.none g1 hA h4 h2 h3 h6 rfl,.inr ⟨rfl,_,rfl,rfl,h2,by omega⟩⟩
 | @go p lead kids x m k r h1 hA h2 h3 hwq h4 h5 _ ih=>
  intro hp hw hc
  obtain ⟨o',g1,g2⟩:=pair_fel hg hp hw hc h1
  cases g2
  obtain ⟨o2,k1,k2⟩:=ih (over_lt h2) hwq h4
  exact ⟨o2,.go g1 hA h4 h2 h3 h5 k1,k2⟩
end
theorem blk_fel (s:ByteArray):∀ g,GivB s (blkR s g) (blkP s g):=by
 intro g
 induction g with
 | zero=>intro deep p o h;exact h.elim
 | succ g ih=>
  intro deep p o h hp hw
  rcases h with ⟨h1,rfl⟩|⟨h1,h⟩
  ·exact ⟨_,.inl ⟨h1,rfl⟩,.inl rfl,fun _=>.inl rfl⟩
  ·by_cases h45:markB s p 45=true
   ·rw[if_pos h45] at h
    obtain ⟨o',g1,g2⟩:=Fel.map (bt:=fun x:Tre=>x.2.2) (fun r:List NT × Coms × Nat=>(NT.mk ⟨3,6,p,0,[],[],[],[],[],false,[]⟩ r.1,r.2)) (fun _=>rfl) (fun o ho=>seq_fel ih ho h45 rfl) h
    exact ⟨o',.inr ⟨h1,by rw[if_pos h45];exact g1⟩,g2.mono (by omega),fun _=>g2⟩
   ·rw[if_neg h45] at h
    obtain ⟨o',g1,g2⟩:=Fel.map (bt:=fun x:Tre=>x.2.2) (fun r:List NT × Coms × Nat=>(NT.mk ⟨4,6,p,0,[],[],[],[],[],false,[]⟩ r.1,r.2)) (fun _=>rfl) (fun o ho=>map_fel ih ho hp hw rfl) h
    exact ⟨o',.inr ⟨h1,by rw[if_neg h45];exact g1⟩,g2,fun e=>absurd e h45⟩
theorem tree_way {s:ByteArray} {at':Int} {beside:Bool} {x:Option NT} {L:Coms} {E C:Int} (h:TreeZ s at' beside x L E C) :
  ∃ g o,nodP s (blkP s g) (if beside=true then 1 else 0) (-1) 0 (min at' (s.size:Int)).toNat o∧match o with
   | .ok r=>if overB s r.2.2=true then x=some r.1∧L=r.2.1∧E=(r.2.2:Int)∧C=0 else x=none∧L=[]∧E=(r.2.2:Int)∧C=5
   | .bad p c=>x=none∧L=[]∧E=(p:Int)∧C=c:=by
 obtain ⟨g,o,h1,h2⟩:=h
 have e:(⟨-1,false,!beside,false,0,false⟩:Spt)=sptP (if beside=true then 1 else 0) (-1) 0:=by cases beside <;> rfl
 rw[e] at h1
 obtain ⟨o',g1,g2⟩:=nod_fel (blk_fel s g) (by cases beside <;> decide) (fun _=>rfl) (by omega) (by omega) h1
 refine ⟨g,o',g1,?_⟩
 cases o with
 | ok r=>cases g2;exact h2
 | bad q e=>
  obtain ⟨rfl,rfl,rfl,rfl⟩:=h2
  rcases g2 with rfl|⟨rfl,y,rfl,rfl,g3,_⟩
  ·exact ⟨rfl,rfl,rfl,rfl⟩
  ·show if overB s y.2.2=true then _ else _
   rw[if_neg (by rw[g3];decide)]
   exact ⟨rfl,rfl,rfl,rfl⟩
end Go.Proofs.YtafhgbokdfhapaaGreatDoor
namespace Go.Proofs.YtafhgbokdfhapaaGreatDoor
open Go.RowKit
section
variable (s:ByteArray) (n:Int)
variable (col:Nat→Nat→Rd (NT × Nat)→Prop)
end
section
variable (s:ByteArray) (n:Int) (col:Nat→Nat→Rd (NT × Nat)→Prop)
end
theorem white_not {y:Nat} (h:U.white (y:Int)=true):y=32∨y=9:=by
 unfold U.white at h
 rw[decide_eq_true_eq] at h
 omega
end Go.Proofs.YtafhgbokdfhapaaGreatDoor
namespace Go.Proofs.YtafhgbokdfhapaaGreatDoor
open Go.RowKit
def HasV (size:Nat) (w:World) (v:Value) (n:Nat) (xs:List Value):Prop:=∃ ao b off cap,v=.slice ao n cap∧cap≤maxLen∧Came w size ao b off n cap xs∧∀ k,v.ownBlock=some k→k<w.heap.size
theorem HasV.nil (size:Nat) (w:World):HasV size w (.slice none 0 0) 0 []:=
 ⟨none,0,0,0,rfl,by decide,⟨Nat.le_refl _,fun h=>absurd h (Nat.lt_irrefl _),fun h=>absurd h (Nat.lt_irrefl _),by simp,fun j u h=>by simp at h,fun j h=>by simp at h⟩,fun k h=>by cases h⟩
theorem HasV.form {size:Nat} {w:World} {v:Value} {n:Nat} {xs:List Value} (h:HasV size w v n xs):∃ ao cap,v=.slice ao n cap:=by
 obtain ⟨ao,b,off,cap,e,_⟩:=h
 exact ⟨ao,cap,e⟩
theorem HasV.keep {size:Nat} {w w':World} {v:Value} {n:Nat} {xs:List Value} (h:HasV size w v n xs) (hk:∀ k,v.ownBlock=some k→k<w.heap.size→w'.heap[k]?=w.heap[k]?):HasV size w' v n xs:=by
 obtain ⟨ao,b,off,cap,rfl,hm,hc,hlt0⟩:=h
 refine ⟨ao,b,off,cap,rfl,hm,?_,fun k hk2=>?_⟩
 rotate_left
 ·have h1:=hlt0 k hk2
  have e:=hk k hk2 h1
  refine Decidable.byContradiction fun hn=>?_
  rw[Array.getElem?_eq_none (Nat.not_lt.1 hn),Array.getElem?_eq_getElem h1] at e
  cases e
 by_cases h0:0<cap
 ·have hb:=hc.lt h0
  have e:w'.heap[b]?=w.heap[b]?:=hk b (by rw[hc.addr h0];rfl) hb
  have hlt:b<w'.heap.size:=by
   refine Decidable.byContradiction fun hn=>?_
   rw[Array.getElem?_eq_none (Nat.not_lt.1 hn),Array.getElem?_eq_getElem hb] at e
   cases e
  exact ⟨hc.le,hc.addr,fun _=>hlt,hc.oldsLen,fun j u hu=>(World.cell?_of_block (a:=⟨b,off+j,none⟩) e).trans (hc.olds j u hu),
   fun j hj=>⟨by rw[World.cell?_of_block (a:=⟨b,off+n*size+j,none⟩) e];exact (hc.spare j hj).1,(World.frozen?_of_block (a:=⟨b,off+n*size+j,none⟩) e).trans (hc.spare j hj).2⟩⟩
 ·have h1:cap=0:=by omega
  have h2:n=0:=by have:=hc.le;omega
  have h3:xs=[]:=List.eq_nil_of_length_eq_zero (by rw[hc.oldsLen,h2,Nat.zero_mul])
  subst h1 h2 h3
  exact ⟨hc.le,hc.addr,fun h=>absurd h (Nat.lt_irrefl _),hc.oldsLen,fun j u hu=>by simp at hu,fun j hj=>by simp at hj⟩
theorem HasV.below {size:Nat} {w w':World} {v:Value} {n:Nat} {xs:List Value} (h:HasV size w v n xs) {B:Nat} (hb:Below B w w') (hB:w.heap.size≤B):HasV size w' v n xs:=
 h.keep fun k _ hlt=>hb.block k (Nat.lt_of_lt_of_le hlt hB)
theorem HasV.own {size:Nat} {w:World} {v:Value} {n:Nat} {xs:List Value} (h:HasV size w v n xs):∀ k,v.ownBlock=some k→k<w.heap.size:=by
 obtain ⟨ao,b,off,cap,rfl,hm,hc,h⟩:=h
 exact h
theorem HasV.of_own {B:Nat} {w:World} {e:TypeId} {size:Nat} {v:Value} {n:Nat} {xs:List Value} (h:w.ownsRow B e size v n xs):HasV size w v n xs:=by
 obtain ⟨h1,h2⟩:=h
 rcases h2 with ⟨rfl,rfl⟩|⟨g,cap,cur,rfl,hg,hh,hnc,hcm,hcs,htake⟩
 ·have:xs=[]:=List.eq_nil_of_length_eq_zero (by rw[h1,Nat.zero_mul])
  subst this
  exact HasV.nil size w
 ·refine ⟨_,g,0,cap,rfl,hcm,⟨hnc,fun _=>rfl,fun _=>(Array.getElem?_eq_some_iff.1 hh).1,h1,fun j u hu=>?_,fun j hj=>⟨?_,frozen_of_row w g _ cur _ hh⟩⟩,fun k hk=>by injection hk with hk;rw[←hk];exact (Array.getElem?_eq_some_iff.1 hh).1⟩
  ·rw[Nat.zero_add,cell_of_row w g j cur _ (0,0) hh]
   have hj:j<n*size:=by have:=(List.getElem?_eq_some_iff.1 hu).1;omega
   rw[←htake,List.getElem?_take,if_pos hj,Array.getElem?_toList] at hu
   exact hu
  ·rw[cell_of_row w g _ cur _ (0,0) hh,Array.getElem?_eq_getElem (by
    have:(cap-n)*size=cap*size-n*size:=Nat.sub_mul _ _ _
    have:n*size≤cap*size:=Nat.mul_le_mul_right _ hnc
    omega)]
   rfl
theorem tape_setCells (b:Nat):∀ (vs:List Value) (o:Nat) (w:World),(w.setCells b o vs).tape=w.tape∧(w.setCells b o vs).heap.size=w.heap.size
 | [],_,_=>⟨rfl,rfl⟩
 | v :: r,o,w=>by
  rw[World.setCells]
  obtain ⟨h1,h2⟩:=tape_setCells b r (o+1) (w.setCell ⟨b,o,none⟩ v)
  exact ⟨h1,h2.trans (by simp[World.setCell])⟩
theorem run_append_has {P:Program} (t tx ty e:TypeId) (i:TypeInfo) (z:Value) (size bytes:Nat) (ht:P.underlying t=some (.slice e)) (hi:P.info? e=some i) (hz:i.zero=some z) (hsize:i.size=size) (hby:i.bytes=bytes) (hzs:z.cells.size=size) (hsz:0<size)
  (w:World) (v:Value) (n:Nat) (xs:List Value) (h:HasV size w v n xs) (x:Value) (m:Nat) (news:List Value) (hs:Src P size tx x m news w) (h63:n+m≤maxLen) (hbytes:(n+m)*bytes≤140737488355328) :
  ∃ v' w',(Builtin.append_ #[t,tx] ty #[v,x]).run P w=.ok v' w'∧HasV size w' v' (n+m) (xs++news)∧w.grownBy w' v.ownBlock∧(v'.ownBlock=v.ownBlock∨v'.ownBlock=some w.heap.size)∧(m=0→v'=v∧w'=w)∧(0<m→∃ a c,v'=.slice (some a) (n+m) c):=by
 subst hsize hby
 obtain ⟨ao,b,off,cap,rfl,hm,hc,hlt0⟩:=h
 have hnl:=hs.newsLen
 have hol:=hc.oldsLen
 have hsmall:n+m≤9223372036854775807:=by simp only[maxLen] at h63;omega
 by_cases hm0:m=0
 ·subst hm0
  have:news=[]:=List.eq_nil_of_length_eq_zero (by rw[hnl,Nat.zero_mul])
  subst this
  refine ⟨_,w,run_append_nothing (P:=P) w t tx ty e i ht hi ao n cap hc.le x hs,?_,World.grownBy.refl _ _,.inl rfl,fun _=>⟨rfl,rfl⟩,fun h=>absurd h (Nat.lt_irrefl _)⟩
  rw[List.append_nil,Nat.add_zero]
  exact ⟨ao,b,off,cap,rfl,hm,hc,hlt0⟩
 ·by_cases hroom:n+m≤cap
  ·have h0:0<cap:=by omega
   have hadd:=hc.addr h0
   subst hadd
   have hlen:news.length≤(cap-n)*i.size:=by rw[hnl];exact Nat.mul_le_mul_right _ (by omega)
   have hrun:=run_append_room_src (P:=P) w t tx ty e i ht hi b off n cap x m news hs hroom (fun j hj=>(hc.spare j (by omega)).1) (fun j hj=>(hc.spare j (by omega)).2)
   obtain ⟨tp,sz⟩:=tape_setCells b news (off+n*i.size) w
   refine ⟨_,_,hrun,⟨_,b,off,cap,rfl,hm,⟨hroom,fun _=>rfl,fun _=>by rw[sz];exact hc.lt h0,by rw[List.length_append,hol,hnl,Nat.add_mul],fun j u hu=>?_,fun j hj=>⟨?_,?_⟩⟩,fun k hk=>by rw[sz];exact hlt0 k hk⟩,⟨World.os_setCells w b _ news,tp,World.output_setCells w b _ news,by rw[sz];exact Nat.le_refl _,fun k hk hne=>World.heap_setCells_other w b _ news hk (fun e=>hne (by rw[e];rfl))⟩,.inl rfl,fun h=>absurd h hm0,fun _=>⟨_,_,rfl⟩⟩
   ·by_cases hj:j<n*i.size
    ·rw[World.cell?_setCells_out b news _ w ⟨b,off+j,none⟩ (fun _ _=>.inl (by show off+j<_;omega))]
     rw[List.getElem?_append_left (by omega)] at hu
     exact hc.olds j u hu
    ·rw[List.getElem?_append_right (by omega),hol] at hu
     have hj2:=(List.getElem?_eq_some_iff.1 hu).1
     have:=World.cell?_setCells_in b news (off+n*i.size) w (fun j hj=>(hc.spare j (by omega)).1) (j-n*i.size) hj2
     rw[show off+n*i.size+(j-n*i.size)=off+j by omega] at this
     rw[this,←hu,List.getElem?_eq_getElem hj2]
   ·have e1:(cap-(n+m))*i.size=(cap-n)*i.size-m*i.size:=by rw[Nat.sub_add_eq,Nat.sub_mul]
    have e2:(n+m)*i.size=n*i.size+m*i.size:=Nat.add_mul _ _ _
    rw[World.cell?_setCells_out b news _ w _ (fun _ _=>.inr (by show _≤off+(n+m)*i.size+j;omega))]
    have:=(hc.spare (m*i.size+j) (by omega)).1
    rwa [show off+n*i.size+(m*i.size+j)=off+(n+m)*i.size+j by omega] at this
   ·have e1:(cap-(n+m))*i.size=(cap-n)*i.size-m*i.size:=by rw[Nat.sub_add_eq,Nat.sub_mul]
    have e2:(n+m)*i.size=n*i.size+m*i.size:=Nat.add_mul _ _ _
    rw[World.frozen?_setCells]
    have:=(hc.spare (m*i.size+j) (by omega)).2
    rwa [show off+n*i.size+(m*i.size+j)=off+(n+m)*i.size+j by omega] at this
  ·have hold:(Builtin.firstCells i.size n (.slice ao n cap)).run P w.drew=.ok xs.toArray w.drew:=by
    by_cases h0:0<n
    ·rw[hc.addr (by have:=hc.le;omega)]
     exact run_firstCells_some w.drew i.size n _ n cap xs hol (fun j u hu=>by rw[Addr.add_lit];exact hc.olds j u hu)
    ·have:n=0:=by omega
     subst this
     have hx:xs=[]:=List.eq_nil_of_length_eq_zero (by rw[hol,Nat.zero_mul])
     subst hx
     cases ao with
     | none=>exact run_firstCells_none w.drew i.size 0 0 cap
     | some a=>exact run_firstCells_some w.drew i.size 0 a 0 cap [] hol (fun j u hu=>by simp at hu)
   have hrun:=run_append_grow_src (P:=P) w t tx ty e i z ht hi hz ao n cap xs hold x m news hs (by omega) (by omega) (growslice_fits (by omega) hbytes)
   have hge:=grownCap_ge w (n+m) cap e
   have hcm:=grownCap_le_maxLen w (n+m) cap e h63
   have hL:(xs++news).length=(n+m)*i.size:=by rw[List.length_append,hol,hnl,Nat.add_mul]
   refine ⟨_,_,hrun,⟨_,w.heap.size,0,_,rfl,hcm,⟨hge,fun _=>rfl,fun _=>by simp,hL,fun j u hu=>?_,fun j hj=>⟨?_,?_⟩⟩,fun k hk=>by injection hk with hk;rw[←hk];simp⟩,⟨rfl,rfl,rfl,by simp,fun k hk _=>Below.heap_alloc w.drew _ k hk⟩,.inr rfl,fun h=>absurd h hm0,fun _=>⟨_,_,rfl⟩⟩
   ·have e1:(w.drew.alloc (.cells ((xs++news).toArray++Builtin.zeroCells z.cells (grownCap w (n+m) cap e-(n+m))) e)).cell? ⟨w.heap.size,0+j,none⟩=_:=World.cell?_alloc_new w.drew _ _ (0+j)
    rw[e1,Nat.zero_add,Array.getElem?_append_left (by simpa using (List.getElem?_eq_some_iff.1 hu).1),List.getElem?_toArray]
    exact hu
   ·have e1:(w.drew.alloc (.cells ((xs++news).toArray++Builtin.zeroCells z.cells (grownCap w (n+m) cap e-(n+m))) e)).cell? ⟨w.heap.size,0+(n+m)*i.size+j,none⟩=_:=World.cell?_alloc_new w.drew _ _ (0+(n+m)*i.size+j)
    rw[e1]
    have hsz2:((xs++news).toArray++Builtin.zeroCells z.cells (grownCap w (n+m) cap e-(n+m))).size=grownCap w (n+m) cap e*i.size:=by
     rw[Array.size_append,List.size_toArray,hL,size_zeroCells,hzs,←Nat.add_mul]
     congr 1
     omega
    rw[Array.getElem?_eq_getElem (by
     rw[hsz2]
     have:(grownCap w (n+m) cap e-(n+m))*i.size=grownCap w (n+m) cap e*i.size-(n+m)*i.size:=Nat.sub_mul _ _ _
     omega)]
    rfl
   ·exact World.frozen?_alloc_new w.drew _ _ _
end Go.Proofs.YtafhgbokdfhapaaGreatDoor
